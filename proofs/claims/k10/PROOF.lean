import PyProof.Rows.All
import Wide.All
import OpenK.AllK
import Wide.FinOn
import KE.KSuper
import HandS.ForMost
import HandS.IsInst
import HandS.Flow
import HandS.Zip
import HandS.Defaults
import HandS.Codes
import HandS.ExcValue
import HandS.ClsMeth
import HandS.Nested
import HandS.MakeKwOnly
import HandS.Star
import HandS.Walk
import HandS.SortKw
import HandS.SortOrd
import HandS.SortRule
import HandS.TupSets
import KE.KDictCopyH
import HandS.Property
import HandS.DictComp
import HandS.Conv
import HandS.More
import HandS.StrMore
import HandS.Text
import KE.GoesMore
import PyProof.EnumFor
import PyProof.WalksMore
import HandS.ExcInit
import HandS.ExcField
import KE.KExcIs
import KE.KExcInit
import HandS.HotCalls
import HandS.Lambda
import HandS.TryOnly
import HandS.SetKeys
import HandS.WordsExc
import HandS.Finally
import HandS.TupMul
import HandS.Comp
import HandS.EndTab
import KE.KLam
import KE.KNestM
import PySem.Challenge.RW_unopened_k10_wrong_texts
set_option Elab.async false
set_option linter.all false
set_option maxRecDepth 100000
set_option maxHeartbeats 4000000
namespace SupX
open PySem PySem.Spec PyProof.Rows L2 NdefX
/-! a body that is known to be the activation itself: super() is asked there alone -/
structure PEa (X : Cx) (B : List Stmt) (e : Expr) (t : TE) : Prop where
  run : ∀ (pins : List (Addr × Obj)) (s : Shared) (σ : L2.St) (H : Hp) (Q : VK), Inv X pins σ H s → t σ H Q → _root_.PySem.wpAt (model X.prog X.w) X.A (.func B X.env) (eval e X.env) (EP X pins σ Q) X.xe s
structure PSa (X : Cx) (B : List Stmt) (st : Stmt) (t : TS) : Prop where
  run : ∀ (pins : List (Addr × Obj)) (s : Shared) (σ : L2.St) (H : Hp) (D : Ends), Inv X pins σ H s → t D σ H → _root_.PySem.wpAt (model X.prog X.w) X.A (.func B X.env) (exec st X.env) (SP X pins D) X.xe s
structure PSsa (X : Cx) (B : List Stmt) (st : List Stmt) (t : TS) : Prop where
  run : ∀ (pins : List (Addr × Obj)) (s : Shared) (σ : L2.St) (H : Hp) (D : Ends), Inv X pins σ H s → t D σ H → _root_.PySem.wpAt (model X.prog X.w) X.A (.func B X.env) (execs st X.env) (SP X pins D) X.xe s
section
variable {X : Cx} {B : List Stmt} {e : Expr} {te : TE} {st : Stmt} {rest : List Stmt} {t u : TS} {pos : Pos}
theorem PE.at_ (h : PE X e te) : PEa X B e te := ⟨fun pins s σ H Q I q => wpAt_of_wpAny (h.run pins s σ H Q I q)⟩
theorem PS.at_ (h : PS X st t) : PSa X B st t := ⟨fun pins s σ H D I q => wpAt_of_wpAny (h.run pins s σ H D I q)⟩
theorem PSs.at_ (h : PSs X rest t) : PSsa X B rest t := ⟨fun pins s σ H D I q => wpAt_of_wpAny (h.run pins s σ H D I q)⟩
theorem psa_ret (he : PEa X B e te) : PSa X B (.Return (some e) pos) (tRet te) := by
  refine ⟨fun pins s σ H D I h => ?_⟩
  exact ks_wpAt_Return_some (ks_wpAt_mono (he.run pins s σ H _ I h) (fun v s1 ⟨x, H1, I1, r1, q1⟩ => ⟨x, σ, H1, I1, r1, q1⟩) fun _ _ z => z)
theorem psa_expr (he : PEa X B e te) (hs : swapsWith e none pos.line X.env = pure false := by rfl) : PSa X B (.Expr e pos) (tDrop te) := by
  refine ⟨fun pins s σ H D I h => ?_⟩
  exact ks_wpAt_Expr_any (ks_wpAt_mono (he.run pins s σ H _ I h) (fun v s1 ⟨x, H1, I1, r1, q1⟩ => ⟨σ, H1, I1, q1⟩) fun _ _ z => z) I.quiet hs
theorem psa_if {c : Expr} {a b : List Stmt} {tc : TT} (hc : PT X c tc) (ha : PSsa X B a t) (hb : PSsa X B b u) : PSa X B (.If c a b pos) (tIfS tc t u) := by
  refine ⟨fun pins s σ H D I h => ?_⟩
  refine ks_wpAt_If (ks_wpAt_mono (wpAt_of_wpAny (hc.run pins s σ H _ I h)) (fun d s1 ⟨H1, I1, q1⟩ => ?_) fun _ _ z => z)
  cases d with
  | true => exact ha.run pins s1 σ H1 D I1 q1
  | false => exact hb.run pins s1 σ H1 D I1 q1
theorem pssa_cons (h1 : PSa X B st t) (h2 : PSsa X B rest u) : PSsa X B (st :: rest) (tSeq t u) := by
  refine ⟨fun pins s σ H D I h => ?_⟩
  refine ks_wpAt_execs_cons (ks_wpAt_mono (h1.run pins s σ H { D with nx := u D } I h) (fun f s1 q => ?_) fun _ _ z => z)
  cases f with
  | next =>
    obtain ⟨σ', H', I', q⟩ := q
    exact h2.run pins s1 σ' H' D I' q
  | ret v => exact q
  | brk => exact q
  | cont => exact q
theorem pssa_one (h1 : PSa X B st t) : PSsa X B [st] t := by
  refine ⟨fun pins s σ H D I h => ?_⟩
  refine ks_wpAt_execs_cons (ks_wpAt_mono (h1.run pins s σ H D I h) (fun f s1 q => ?_) fun _ _ z => z)
  cases f with
  | next => exact wpAt_of_wpAny (wpAny_execs_nil q)
  | ret v => exact q
  | brk => exact q
  | cont => exact q
theorem pea_un {op : UnaryOp} {r : V → Hp → VK → Prop} {a : Expr} {ta : TE} (ho : UnR X (unaryOp op) r) (ha : PEa X B a ta) : PEa X B (.UnaryOp op a pos) (tUn r ta) := by
  refine ⟨fun pins s σ H Q I h => ?_⟩
  rw [eval_UnaryOp]
  exact _root_.PySem.wpAt_bind (ks_wpAt_mono (ha.run pins s σ H _ I h) (fun v s1 ⟨x, H1, I1, r1, q1⟩ => wpAt_of_wpAny (wpAny_bind (wpAny_standAt (wpAny_holding (ho pins s1 σ H1 x v Q I1 r1 q1))))) fun _ _ z => z)
end

/-! ### the rule for a def that closes over __class__ -/
abbrev clsCells (cc : Addr) : List (Str × Addr) := [("__class__", cc)]
section
variable {CX : CXT} {P : Program} {w : World} {K : PySem.W.Frag} {mg : Str → Option Value} {base : Heap} {k : Nat} {f cc cda D : Addr} {name qual : Str} {params : Arguments} {body : List Stmt} {scope : Scope} {dV kV doc pm ct oc : Value} {an od : Option Addr}
    {osl : Array (Option Value)} {N ps : List Str} {sp : Sp}
theorem fn_ofC (lk : K.lookup f = some ⟨oc, od, .func (PySem.W.fnX name qual params body scope (clsCells cc) dV kV doc pm an (.ref cda) ct), osl⟩) (hcd : PySem.W.codeIn K (.ref cda) qual = true)
    (hcc : ∃ (o : Obj), K.lookup cc = some o ∧ o.data = .cell (some (.ref D))) (S : NScope N ps ["__class__"] scope) (len : ∀ vs H Q E, sp vs H Q E → vs.length = ps.length)
    (hbody : ∀ (A : Around) (outer : List Env) (s : Shared) (H : Hp) (vs : List V) (Q : VK) (E : XK), Room k (A.deeper (envF ⟨name, qual, params, body, scope, clsCells cc, cda⟩ f s.heap.objs.size)) → sp vs H Q E →
      ∃ t, PSsa (ncx CX P w K mg base N ⟨name, qual, params, body, scope, clsCells cc, cda⟩ f A outer s H E) body body t ∧ t { nx := fun _ H' => Q .non H', rt := Q } (startF N vs [none]) H) :
    FnOk P w K mg base CX (k + 1) f (PySem.W.fnX name qual params body scope (clsCells cc) dV kV doc pm an (.ref cda) ct) ps sp := by
  refine ⟨len, fun A outer s H args us vs Q E hr e0 hb r hsp => ?_⟩
  have hl := len _ _ _ _ hsp
  have KX : K.In s.heap := e0.mod.kin.keeps fun b o e => (e0.bs b o e).1
  have lim : s.heap.NoLimit := e0.mod.nolimit.keeps fun b o e => (e0.bs b o e).1
  refine codeAny_call_function hr.depth (KX _ _ lk) rfl S.co S.gen rfl (PySem.W.codeRec_of KX hcd) (hb _ _ _ _ ?_)
  refine wpAny_newFunctionEnv S.nocell (fun ⟨n, _⟩ hy => S.par n (List.of_mem_zip hy).1) (fun h₁ hns hsb => ⟨lim.fresh _ hsb, ?_⟩) S.kind
  show codeAny _ _ (.func body (envF ⟨name, qual, params, body, scope, clsCells cc, cda⟩ f s.heap.objs.size)) _ _
  refine ks_codeAny_funcAt ?_
  have kp : ∀ b o, s.heap.get? b = some o → h₁.get? b = some o := fun b o e => hsb.extBut b o (Nat.ne_of_lt (Heap.lt_size e)) (Heap.get?_push_of_some _ e)
  obtain ⟨t, ht, hq⟩ := hbody A outer s H vs Q E (hr.deeper _) hsp
  have C : CellsAt (clsCells cc) ["__class__"] [none] s.heap H := by
    obtain ⟨o, lo, od⟩ := hcc
    have hin := e0.mod.kin
    have hg : base.get? cc = some o := hin _ _ lo
    obtain ⟨b1, b2⟩ := e0.bs cc o hg
    have hlook : ∀ y c, (clsCells cc).lookup y = some c → c = cc ∧ y = "__class__" := fun y c e => by
      unfold clsCells at e
      rw [List.lookup_cons] at e
      split at e
      · rename_i h
        cases e
        exact ⟨rfl, eq_of_beq h⟩
      · cases e
    refine ⟨rfl, fun y c e => ?_, fun x y c e1 e2 => ?_, fun i y e => ?_⟩
    · obtain ⟨rfl, _⟩ := hlook y c e
      exact ⟨b2, _, o, b1, od⟩
    · rw [(hlook x c e1).2, (hlook y c e2).2]
    · match i, e with
      | 0, e =>
        cases e
        exact ⟨cc, rfl, fun v z => by cases z⟩
  have I : Inv (ncx CX P w K mg base N ⟨name, qual, params, body, scope, clsCells cc, cda⟩ f A outer s H E) [] (startF N vs [none]) H { s with heap := h₁, toks := s.toks + (ps.zip us).length } := inv_startN S hr.hd e0 hl r C hns kp
  refine ks_wpAt_mono (ht.run [] _ (startF N vs [none]) H _ I hq) (fun fl s' hs => ?_) fun e s' hs => hs
  have fin : ∀ {σ' : L2.St} {H' : Hp} {v : V} {u : Value}, Inv (ncx CX P w K mg base N ⟨name, qual, params, body, scope, clsCells cc, cda⟩ f A outer s H E) [] σ' H' s' → L2.RelV v u → Q v H' → CE outer P w H s Q u s' :=
    fun {σ' H' v u} J rv q => ⟨v, H', J.os, J.bare, J.base, J.hok, rv, q⟩
  cases fl with
  | ret u =>
    obtain ⟨v, σ', H', J, rv, q⟩ := hs
    exact fin J rv q
  | next =>
    obtain ⟨σ', H', J, q⟩ := hs
    exact fin (v := V.non) (u := Value.none) J rfl q
  | brk =>
    obtain ⟨_, _, _, q⟩ := hs
    exact False.elim q
  | cont =>
    obtain ⟨_, _, _, q⟩ := hs
    exact False.elim q
end

/-! ### super().m(e, .., k = v, ..) -/
/-- what of the text and of the context super() asks -/
structure SupC (X : Cx) (f cda cc D : Addr) (sf : Str) : Prop where
  hks : X.env.kindOf "super" = some .globalImplicit
  hkc : X.env.kindOf "__class__" = some .free
  fu : X.env.func = some f
  co : X.env.code = .ref cda
  fdd : ∃ (o : Obj) (fd : FuncData) (ar : Arg), X.K.lookup f = some o ∧ o.data = .func fd ∧ (fd.params.posonlyargs ++ fd.params.args).head? = some ar ∧ ar.arg = sf
  nm : X.N[0]? = some sf
  ka : X.env.kindOf sf = some .local
  code : ∃ (o : Obj) (vs : Array Value) (file : Str) (tf : Tok), X.K.lookup cda = some o ∧ o.data = .fields vs ∧ vs[2]? = some (.str file tf) ∧ (X.prog.main.file == file) = true
  cell : ∃ (o : Obj), X.K.lookup cc = some o ∧ o.data = .cell (some (.ref D))
  lk : X.env.cells.lookup ("__class__" : Str) = some cc
  cls : ∃ cd, PySem.W.clsIn X.K D = some cd
  top : (X.prog.main.scope.names.lookup ("super" : Str)).isSome = false
  ms : X.mg "super" = none
  any_ : PySem.W.nsIn X.K cStatics "thirdparty.any" = some none
/-- the method m above D, of an instance of C -/
structure SupM (K : PySem.W.Frag) (C D : Addr) (m : Str) (g : Addr) : Prop where
  sub : PySem.W.mroIn K C (.ref D) = some true
  at_ : PySem.W.ks_superIn K C D m = some (some (.ref g))
  ty : PySem.W.typeIn K (.ref g) = some (.type "function")
  fi : PySem.W.fnIn K g = true
section
variable {X : Cx} {pins : List (Addr × Obj)} {σ : L2.St} {H : Hp} {s : Shared} {a C dx : Addr} {fs : List (Str × V)} {f cda cc D : Addr} {sf : Str} {B : List Stmt}
/-- super() -/
theorem base_super {p0 p1 : Pos} {attr : Str} {whole : Sem Value} {Q : Value → Shared → Prop} (S : SupC X f cda cc D sf) (I : Inv X pins σ H s) (hσ : σ[0]? = some (some (.ref a))) (e : H a = some (.ins C dx fs)) (sub : PySem.W.mroIn X.K C (.ref D) = some true)
    (hat : (attr == ("__class__" : Str)) = false) (h : ∀ so s', Inv X ((so, PySem.W.ks_superObj D a C) :: pins) σ H s' → Q (.ref so) s') :
    _root_.PySem.wpAt (model X.prog X.w) X.A (.func B X.env) (attributeBase (.Call (.Name "super" p0) [] [] p1) attr X.env whole) Q X.xe s := by
  have KX := I.kIn
  obtain ⟨of, fd, ar, l1, l2, l3, rfl⟩ := S.fdd
  obtain ⟨oc, vs, file, tf, c1, c2, c3, c4⟩ := S.code
  obtain ⟨ocl, cl1, cl2⟩ := S.cell
  obtain ⟨cd, hcd⟩ := S.cls
  obtain ⟨oD, hD1, hD2⟩ : ∃ oD, s.heap.get? D = some oD ∧ oD.data = .cls cd := by
    have hcd := hcd
    unfold PySem.W.clsIn at hcd
    split at hcd
    · rename_i c d cd' sl ho
      cases hcd
      exact ⟨_, KX _ _ ho, rfl⟩
    · cases hcd
  refine ks_wpAt_super_base (env := X.env) S.hks S.hkc hat S.fu (KX _ _ l1) l2 l3 S.co (KX _ _ c1) c2 c3 c4 S.top ?_
  obtain ⟨mb, b1, b2⟩ := I.mod.blt
  refine PySem.W.ks_loadName_global I.ok.kind S.hks (Calls.loadGlobal_builtin (by rw [I.ok.glob]; exact I.mod.glob.keeps I.bk) S.ms (by rw [I.ok.blt]; exact b1.keeps I.bk) ((b2 _ (by decide +kernel)).trans (by first | rfl | kernel_rfl | decide +kernel)) ⟨rfl, ?_⟩)
  refine wpAny_loadName_free I.ok.kind S.hkc S.lk ⟨_, KX _ _ cl1, cl2⟩ ?_
  obtain ⟨m, hn, hl⟩ := I.loc
  obtain ⟨u, r, l⟩ := hl 0 _ _ S.nm hσ (.inl S.ka)
  obtain rfl : u = Value.ref a := r
  rcases l with ⟨hk, hm⟩ | ⟨hk, c, hc, hcell⟩
  case inr =>
    rw [S.ka] at hk
    rcases hk with hk | hk <;> cases hk
  refine wpAny_loadName_local I.ok.kind S.ka hn hm ?_
  refine ks_wpAny_isType_cls hD1 hD2 ⟨rfl, ?_⟩
  obtain ⟨mA, O, _, _, _, _⟩ := ins_get I.hok e
  obtain ⟨od, J, _⟩ := O.look
  obtain ⟨hh, g, d, t, os⟩ := s
  refine ks_wpAny_call_super hD1 hD2 J.at_ J.cls (fun c e => ?_) (PySem.W.looks_mroIn KX sub) (fun h' e k => ?_)
  · have := J.no
    unfold PySem.W.notCls at this
    rw [e] at this
    exact Bool.noConfusion this
  · exact h _ _ (ClX.pin_new I k (Nat.le_refl _) e (fun v z => nomatch z))
/-- .m of it: a bound method, new -/
theorem meth_super {so : Addr} {m : Str} {g : Addr} {pl : Sem Bool} {E : Value → Shared → Prop} {A : Around} {Q : Value × List Value → Shared → Prop} (I : Inv X ((so, PySem.W.ks_superObj D a C) :: pins) σ H s) (e : H a = some (.ins C dx fs)) (ha : PySem.W.nsIn X.K cStatics "thirdparty.any" = some none)
    (M : SupM X.K C D m g) (hn : (m == ("__class__" : Str)) = false) (h : ∀ q s', Inv X ((q, PySem.W.methodObj (.ref g) (.ref a)) :: pins) σ H s' → X.base.get? q = none → Q (.ref q, []) s') :
    wpAny (model X.prog X.w) A (getMethod (.ref so) m pl) Q E s := by
  have KX := I.kIn
  have hso := ClX.pin_at I
  have I0 := ClX.unpin I
  obtain ⟨mA, O, _, _, _, _⟩ := ins_get I.hok e
  obtain ⟨od, J, _⟩ := O.look
  have hb := ClX.base_none I0 (Nat.le_refl _)
  obtain ⟨hh, gg, d, t, os⟩ := s
  have hm := M.at_
  have ht := M.ty
  cases hc : PySem.W.clsIn X.K C with
  | none => unfold PySem.W.ks_superIn at hm; rw [hc] at hm; cases hm
  | some cd =>
    unfold PySem.W.ks_superIn at hm
    rw [hc] at hm
    obtain ⟨of, hof, hofc⟩ : ∃ of, hh.get? g = some of ∧ of.cls = .type "function" := by
      have ht' : (X.K.lookup g).map (·.cls) = some (.type "function") := ht
      cases z : X.K.lookup g with
      | none => rw [z] at ht'; cases ht'
      | some of => rw [z] at ht'; exact ⟨of, KX _ _ z, Option.some.inj ht'⟩
    refine ks_wpAny_getMethod_super hso (PySem.W.looks_opaque KX ha) (l₀ := cd.mro) ?_ rfl KX hm hof hofc (PySem.W.ks_ne KX J hc) hn ?_
    · exact fun A Q E s k q => wpAny_bind ((PySem.W.looks_clsIn KX hc) A _ E s k (wpAny_pure q))
    · exact h _ _ (ClX.pin_new I0 (fun _ _ z => Heap.get?_push_of_some _ z) (Nat.le_refl _) (Heap.get?_push_at rfl rfl) (fun v z => nomatch z)) hb
end
/-- super().m(e, ..), self in the first slot -/
def tSup (C : Addr) (sp : Sp) (E : XK) (t : TA) : TE := fun σ H Q => ∃ a dx fs, σ[0]? = some (some (.ref a)) ∧ H a = some (.ins C dx fs) ∧ t σ H fun vs H1 => sp (.ref a :: vs) H1 Q E
/-- super().m(e, .., k = v, ..) -/
def tSupK (C : Addr) (n m : Nat) (sp : Sp) (gV : List V → List V → List V) (E : XK) (t tk : TA) : TE := fun σ H Q => ∃ a dx fs, σ[0]? = some (some (.ref a)) ∧ H a = some (.ins C dx fs) ∧ t σ H fun vs H1 => tk σ H1 fun zs H2 => vs.length = n ∧ zs.length = m ∧ sp (gV (.ref a :: vs) zs) H2 Q E
section
variable {X : Cx} {CX : CXT} {k n : Nat} {C D f g cda cc : Addr} {sf m : Str} {fd : FuncData} {ps ks : List Str} {sp : Sp} {E : XK} {B : List Stmt} {p0 p1 apos pos : Pos} {e : Expr} {es : List Expr} {kws : List Keyword} {t tk : TA} {gg : List Value → List Value → List Value} {gV : List V → List V → List V} {pl : Sem Bool}
theorem pea_super (S : SupC X f cda cc D sf) (M : SupM X.K C D m g) (F : FnOk X.prog X.w X.K X.mg X.base CX k g fd ps sp) (hr : Room k X.A) (hb : Binds X.K fd ps []) (hx : Passes CX X E) (ha : PA X (e :: es) t)
    (hn : (m == ("__class__" : Str)) = false := by decide) (hst : starEach (e :: es) X.env = (false, eval e X.env) :: starEach es X.env := by rfl) (hpl : (backTo pos (starEach es X.env)).any (·.1) = false := by rfl)
    (ht : eval (.Call (.Attribute (.Call (.Name "super" p0) [] [] p1) m apos) (e :: es) [] pos) X.env = (do
      let ov ← attributeBase (.Call (.Name "super" p0) [] [] p1) m X.env (eval (.Call (.Name "super" p0) [] [] p1) X.env)
      standAt apos.atName
      let (f, first) ← holding [ov] (getMethod ov m pl)
      callWith pos f first (backTo pos (starEach (e :: es) X.env)) []) := by rfl) :
    PEa X B (.Call (.Attribute (.Call (.Name "super" p0) [] [] p1) m apos) (e :: es) [] pos) (tSup C sp E t) := by
  refine ⟨fun pins s σ H Q I ⟨a, dx, fs, h1, h2, h3⟩ => ?_⟩
  refine ks_wpAt_MethodCall (pl := pl) (base_super S I h1 h2 M.sub hn fun so s1 I1 => ?_) ht
  refine meth_super I1 h2 S.any_ M hn fun q s2 I2 hbq => ?_
  refine ClX.callwith_cm I2 hbq M.fi (thn (ha.run pos _ s2 σ H _ I2 h3) fun us s3 ⟨vs, H2, I3, rv, q2⟩ => ⟨⟨ClX.pin_at I3, I3.kIn⟩, ?_⟩) hst hpl
  have z : wpAny (model X.prog X.w) X.A (call (.ref q) us) (EP X ((q, PySem.W.methodObj (.ref g) (.ref a)) :: pins) σ Q) X.xe s3 := by
    have hl : (Value.ref a :: us).length = ps.length := by
      have := F.len _ _ _ _ q2
      rw [List.length_cons] at this ⊢
      rw [← rv.length]
      exact this
    have hbb := hb s3 (.ref a :: us) I3.kIn (by rw [List.append_nil]; exact hl)
    rw [List.append_nil] at hbb
    refine wpAny_call (PySem.W.method_call (ClX.pin_at I3) (codeAny_mono (F.run X.A X.stack s3 H2 ⟨.ref a :: us, []⟩ (.ref a :: us) (.ref a :: vs) Q E hr I3.env0 hbb (.cons rfl rv) q2) fun r s' hq => ?_))
    cases r with
    | error e => exact hx _ σ H2 s3 e s' I3 hq
    | ok fl =>
      cases fl with
      | ret u => exact I3.after hq
      | next => exact False.elim hq
      | brk => exact False.elim hq
      | cont => exact False.elim hq
  exact thn z fun _ _ y => ClX.unpinE y
theorem pea_superK (S : SupC X f cda cc D sf) (M : SupM X.K C D m g) (F : FnOk X.prog X.w X.K X.mg X.base CX k g fd ps sp) (hr : Room k X.A) (hb : KBn X.K fd ps (n + 1) ks gg gV) (hx : Passes CX X E) (ha : PA X (e :: es) t) (hkw : PK X kws tk)
    (hn : (m == ("__class__" : Str)) = false := by decide) (hall : (backToKw pos (keywordEach kws X.env)).all (·.1.isSome) = true := by rfl) (hks : (backToKw pos (keywordEach kws X.env)).filterMap (·.1) = ks := by rfl)
    (hst : starEach (e :: es) X.env = (false, eval e X.env) :: starEach es X.env := by rfl) (hpl : ((backTo pos (starEach (e :: es) X.env)).any (·.1) || (backToKw pos (keywordEach kws X.env)).any (·.1.isNone)) = false := by rfl)
    (ht : eval (.Call (.Attribute (.Call (.Name "super" p0) [] [] p1) m apos) (e :: es) kws pos) X.env = (do
      let ov ← attributeBase (.Call (.Name "super" p0) [] [] p1) m X.env (eval (.Call (.Name "super" p0) [] [] p1) X.env)
      standAt apos.atName
      let (f, first) ← holding [ov] (getMethod ov m pl)
      callWith pos f first (backTo pos (starEach (e :: es) X.env)) (backToKw pos (keywordEach kws X.env))) := by rfl) :
    PEa X B (.Call (.Attribute (.Call (.Name "super" p0) [] [] p1) m apos) (e :: es) kws pos) (tSupK C n ks.length sp gV E t tk) := by
  refine ⟨fun pins s σ H Q I ⟨a, dx, fs, h1, h2, h3⟩ => ?_⟩
  rw [ht]
  refine _root_.PySem.wpAt_bind (base_super S I h1 h2 M.sub hn fun so s1 I1 => wpAt_of_wpAny (wpAny_bind (wpAny_standAt (wpAny_bind (wpAny_holding ?_)))))
  refine meth_super I1 h2 S.any_ M hn fun q s2 I2 hbq => ?_
  show wpAny _ _ (callWith pos (.ref q) [] _ _) _ _ _
  refine PySem.W.callWith_of (P := PySem.W.MethP X.K q g (.ref a)) hpl (PySem.W.keeps_M M.fi) (evalArgs_kw2 hall (thn (ha.run pos _ s2 σ H _ I2 h3) fun us s3 ⟨vs, H1, I3, rv, q2⟩ => thn (hkw.run pos _ s3 σ H1 _ I3 q2) fun ws s4 ⟨zs, H2, I4, rz, l1, l2, q3⟩ => ⟨⟨ClX.pin_at I4, I4.kIn⟩, ?_⟩) hst)
  rw [hks]
  have z : wpAny (model X.prog X.w) X.A (call (.ref q) us (ks.zip ws)) (EP X ((q, PySem.W.methodObj (.ref g) (.ref a)) :: pins) σ Q) X.xe s4 := by
    have r1 : Vals (V.ref a :: vs) (Value.ref a :: us) := .cons rfl rv
    have r2 := hb.rel r1 rz
    have hbb := hb.to s4 (.ref a :: us) ws I4.kIn (by rw [List.length_cons, ← rv.length, l1]) (rz.length.symm.trans l2)
    refine wpAny_call (ks_codeAny_call_bound (ClX.pin_at I4) (codeAny_mono (F.run X.A X.stack s4 H2 ⟨.ref a :: us, ks.zip ws⟩ (gg (.ref a :: us) ws) (gV (.ref a :: vs) zs) Q E hr I4.env0 hbb r2 q3) fun r s' hq => ?_))
    cases r with
    | error e => exact hx _ σ H2 s4 e s' I4 hq
    | ok fl =>
      cases fl with
      | ret u => exact I4.after hq
      | next => exact False.elim hq
      | brk => exact False.elim hq
      | cont => exact False.elim hq
  exact thn z fun _ _ y => ClX.unpinE y
end
/-! ### o.m(k = v, ..), f(k = v, ..) where f is an instance -/
/-- o.m(k = v, ..) -/
def tMethKw (C : Addr) (m : Str) (n : Nat) (sp : Sp) (gV : List V → List V → List V) (E : XK) (ta : TE) (tk : TA) : TE := fun σ H Q => ta σ H fun x H1 => ∃ a dx fs, x = .ref a ∧ H1 a = some (.ins C dx fs) ∧ fs.lookup m = none ∧ tk σ H1 fun zs H2 => zs.length = n ∧ sp (gV [.ref a] zs) H2 Q E
/-- f(k = v, ..) -/
def tCallOKw (X : Cx) (C : Addr) (n : Nat) (sp : Sp) (gV : List V → List V → List V) (E : XK) (tf : TE) (tk : TA) : TE := fun σ H Q => tf σ H fun y H1 => ∃ a, y = V.ref a ∧ tk σ H1 fun zs H2 => zs.length = n ∧ StX.InsC X H2 a C ∧ sp (gV [.ref a] zs) H2 Q E
section
variable {X : Cx} {CX : CXT} {k : Nat} {C f : Addr} {m : Str} {fd : FuncData} {ps ks : List Str} {sp : Sp} {E : XK} {o fe : Expr} {kws : List Keyword} {ta tf : TE} {tk : TA} {apos pos : Pos} {pl : Sem Bool} {gg : List Value → List Value → List Value} {gV : List V → List V → List V}
theorem pe_methKw (he : PE X o ta) (c : Cls X.K C) (hm : Meth X.K C m f) (F : FnOk X.prog X.w X.K X.mg X.base CX k f fd ps sp) (hr : Room k X.A) (hb : KBn X.K fd ps 1 ks gg gV) (hx : Passes CX X E) (hkw : PK X kws tk)
    (hall : (backToKw pos (keywordEach kws X.env)).all (·.1.isSome) = true := by rfl) (hks : (backToKw pos (keywordEach kws X.env)).filterMap (·.1) = ks := by rfl)
    (hpl : ((backTo pos (starEach [] X.env)).any (·.1) || (backToKw pos (keywordEach kws X.env)).any (·.1.isNone)) = false := by rfl)
    (ht : eval (.Call (.Attribute o m apos) [] kws pos) X.env = (do
      let ov ← eval o X.env
      standAt apos.atName
      let (f, first) ← holding [ov] (getMethod ov m pl)
      callWith pos f first (backTo pos (starEach [] X.env)) (backToKw pos (keywordEach kws X.env))) := by rfl) :
    PE X (.Call (.Attribute o m apos) [] kws pos) (tMethKw C m ks.length sp gV E ta tk) := by
  refine ⟨fun pins s σ H Q I h => ?_⟩
  refine PySem.W.methodCall_KW (pl := pl) (thn (he.run pins s σ H _ I h) fun u s1 ⟨x, H1, I1, rx, a, dx, fs, ex, ea, l, q⟩ => ?_) ht
  subst ex
  obtain rfl : u = Value.ref a := rx
  refine getmeth_ok I1 ea c hm l ?_
  refine PySem.W.callWith_KW0 (h₀ := X.base) I.ok.mod.kin hm.kp hall ?_ hpl
  refine thn (hkw.run pos pins s1 σ H1 _ I1 q) fun ws s2 ⟨zs, H2, I2, rz, l1, q2⟩ => ⟨I2.kIn, ?_⟩
  rw [hks]
  exact run_fnN (us := [.ref a]) (vs := [.ref a]) F hr hb hx I2 (.cons rfl .nil) rz rfl l1 q2
theorem callO_ofK {M : Model} {A : Around} {E : Value → Shared → Prop} {s : Shared} {a : Addr} {pos : Pos} {Q : Value → Shared → Prop} {args : List (Bool × Sem Value)} {keywords : List (Option Str × Sem Value)} (hplain : (args.any (·.1) || keywords.any (·.1.isNone)) = false)
    (h : wpAny M A (evalArgs (.ref a) true args keywords) (fun z s₁ => (∃ C ox od, PySem.W.InstAt s₁.heap a ox C od ∧ ox.data = .plain) ∧ wpAny M A (call (.ref a) ([] ++ z.pos) z.kw) Q E s₁) E s) : wpAny M A (callWith pos (.ref a) [] args keywords) Q E s := by
  unfold callWith
  refine wpAny_bind (wpAny_holding (wpAny_mono h (fun z s₁ h₁ => wpAny_bind (wpAny_standAt ?_)) fun _ _ y => y))
  obtain ⟨⟨C, ox, od, J, hd⟩, h₁⟩ := h₁
  have L := PySem.W.kco_keeper (M := M) J hd
  simp only [hplain]
  refine wpAny_bind (L.here ?_)
  have tail : ∀ {t : Sem Value}, wpAny M A t Q E s₁ → wpAny M A (t >>= fun r => holding [r] point >>= fun _ => pure r) Q E s₁ :=
    fun ht => wpAny_bind (wpAny_mono ht (fun r s₂ hr => wpAny_bind (wpAny_holding (wpAny_point (wpAny_pure hr)))) fun _ _ y => y)
  exact tail (wpAny_operateT h₁)
theorem pe_callOKw {g : Addr} (hf : PE X fe tf) (c : StX.CallO X.K C g) (F : FnOk X.prog X.w X.K X.mg X.base CX k g fd ps sp) (hr : Room k X.A) (hb : KBn X.K fd ps 1 ks gg gV) (hx : Passes CX X E) (hkw : PK X kws tk)
    (hall : (backToKw pos (keywordEach kws X.env)).all (·.1.isSome) = true := by rfl) (hks : (backToKw pos (keywordEach kws X.env)).filterMap (·.1) = ks := by rfl)
    (hpl : ((backTo pos (starEach [] X.env)).any (·.1) || (backToKw pos (keywordEach kws X.env)).any (·.1.isNone)) = false := by rfl)
    (ht : eval (.Call fe [] kws pos) X.env = (do callWith pos (← eval fe X.env) [] (backTo pos (starEach [] X.env)) (backToKw pos (keywordEach kws X.env))) := by rfl) : PE X (.Call fe [] kws pos) (tCallOKw X C ks.length sp gV E tf tk) := by
  refine ⟨fun pins s σ H Q I h => ?_⟩
  rw [ht]
  refine wpAny_bind (thn (hf.run pins s σ H _ I h) fun u s1 ⟨y, H1, I1, ry, a, ey, q⟩ => ?_)
  subst ey
  obtain rfl : u = Value.ref a := ry
  refine callO_ofK hpl (evalArgs_kw2_nil hall (thn (hkw.run pos pins s1 σ H1 _ I1 q) fun ws s2 ⟨zs, H2, I2, rz, l1, hi, q2⟩ => ?_))
  obtain ⟨ox, od, J, hd⟩ := StX.insC_at I2 hi
  refine ⟨⟨C, ox, od, J, hd⟩, ?_⟩
  rw [hks]
  have r2 := hb.rel (show Vals [V.ref a] [Value.ref a] from .cons rfl .nil) rz
  have hbb := hb.to s2 [.ref a] ws I2.kIn rfl (rz.length.symm.trans l1)
  refine wpAny_call (PySem.W.kco_code I2.kIn J hd c.at_ c.fn c.fi (codeAny_mono (F.run X.A X.stack s2 H2 ⟨[.ref a], ks.zip ws⟩ (gg [.ref a] ws) (gV [.ref a] zs) Q E hr I2.env0 hbb r2 q2) fun r s' hq => ?_))
  cases r with
  | error e => exact hx pins σ H2 s2 e s' I2 hq
  | ok fl =>
    cases fl with
    | ret u => exact I2.after hq
    | next => exact False.elim hq
    | brk => exact False.elim hq
    | cont => exact False.elim hq
end
/-! ### defs that close over __class__, with defaults -/
/-- a def that closes over __class__ (the class at D), as it stands behind the top -/
structure FunC (K : PySem.W.Frag) (P : Program) (x qual : Str) (params : Arguments) (body : List Stmt) (scope : Scope) (dvs : List V) (kws : List (Str × V)) (D f : Addr) (fd : FuncData) : Prop where
  ex : ∃ (cc cda : Addr) (oc : Value) (od : Option Addr) (dV kV doc pm : Value) (an : Option Addr) (ct : Value) (osl : Array (Option Value)),
    fd = PySem.W.fnX x qual params body scope (clsCells cc) dV kV doc pm an (.ref cda) ct ∧ K.lookup f = some ⟨oc, od, .func fd, osl⟩ ∧ PySem.W.codeIn K (.ref cda) qual = true ∧
    (∃ (o : Obj) (vs : Array Value) (file : Str) (tf : Tok), K.lookup cda = some o ∧ o.data = .fields vs ∧ vs[2]? = some (.str file tf) ∧ (P.main.file == file) = true) ∧
    (∃ (o : Obj), K.lookup cc = some o ∧ o.data = .cell (some (.ref D))) ∧ DflV K dV dvs ∧ KwdV K kV kws
  kp : PySem.W.keepIn K (.ref f) = true
  cls : ∃ cd, PySem.W.clsIn K D = some cd
  any_ : PySem.W.nsIn K cStatics "thirdparty.any" = some none
  top : (P.main.scope.names.lookup ("super" : Str)).isSome = false
section
variable {CX : CXT} {P : Program} {w : World} {K : PySem.W.Frag} {mg : Str → Option Value} {base : Heap} {k : Nat} {f D : Addr} {fd : FuncData} {x qual : Str} {params : Arguments} {body : List Stmt} {scope : Scope} {dvs : List V} {kws : List (Str × V)} {N ps : List Str} {sp : Sp}
theorem FunC.ok (F : FunC K P x qual params body scope dvs kws D f fd) (S : NScope N ps ["__class__"] scope) (ms : mg "super" = none) (s1 : scope.names.lookup ("super" : Str) = some .globalImplicit) (s2 : scope.names.lookup ("__class__" : Str) = some .free)
    {ar : Arg} (hp : (params.posonlyargs ++ params.args).head? = some ar) (hN : N[0]? = some ar.arg) (hl : scope.names.lookup ar.arg = some .local) (len : ∀ vs H Q E, sp vs H Q E → vs.length = ps.length)
    (hbody : ∀ (cc cda : Addr) (A : Around) (outer : List Env) (s : Shared) (H : Hp) (vs : List V) (Q : VK) (E : XK), Room k (A.deeper (envF ⟨x, qual, params, body, scope, clsCells cc, cda⟩ f s.heap.objs.size)) →
      SupC (ncx CX P w K mg base N ⟨x, qual, params, body, scope, clsCells cc, cda⟩ f A outer s H E) f cda cc D ar.arg → sp vs H Q E →
      ∃ t, PSsa (ncx CX P w K mg base N ⟨x, qual, params, body, scope, clsCells cc, cda⟩ f A outer s H E) body body t ∧ t { nx := fun _ H' => Q .non H', rt := Q } (startF N vs [none]) H) :
    FnOk P w K mg base CX (k + 1) f fd ps sp := by
  obtain ⟨cc, cda, oc, od, dV, kV, doc, pm, an, ct, osl, rfl, lk, hcd, hcode, hcell, _, _⟩ := F.ex
  refine fn_ofC (D := D) lk hcd hcell S len fun A outer s H vs Q E hr hsp => ?_
  exact hbody cc cda A outer s H vs Q E hr ⟨s1, s2, rfl, rfl, ⟨_, _, ar, lk, rfl, hp, rfl⟩, hN, hl, hcode, hcell, rfl, F.cls, F.top, ms, F.any_⟩ hsp
theorem FunC.binds (F : FunC K P x qual params body scope dvs kws D f fd) (n j : Nat) (hd : dvs ≠ []) (hn : n + ((dvs.length - j) + kws.length) = ps.length)
    (h : ∀ (cl : List (Str × Addr)) (T D : Addr) (doc pm : Value) (an : Option Addr) (cdv ct : Value) (us its ks : List Value), us.length = n → its.length = dvs.length → ks.length = kws.length →
      ∃ k, bindArgs (PySem.W.fnX x qual params body scope cl (.ref T) (.ref D) doc pm an cdv ct) ⟨us, []⟩ = seqItems? (.ref T) >>= k ∧ KwChain D ((kws.map (·.1)).zip ks) (k (some its.toArray)) (ps.zip (us ++ (its.drop j ++ ks))))
    (hk : kws ≠ []) : ∃ ds, Vals (dvs.drop j ++ kws.map (·.2)) ds ∧ Binds K fd ps ds := by
  obtain ⟨cc, cda, oc, od, dV, kV, doc, pm, an, ct, osl, rfl, lk, hcd, hcode, hcell, hD, hK⟩ := F.ex
  rcases hD with ⟨e, _⟩ | ⟨_, T, o, its, m, rfl, lT, oT, rT⟩
  · exact absurd e hd
  · rcases hK with e | ⟨D, rfl, hq⟩
    · exact absurd e hk
    · obtain ⟨ks, hl, rk, hks⟩ := kwd_vals hq
      refine ⟨its.drop j ++ ks, (rT.drop j).append rk, fun s us X hlen => ?_⟩
      have l1 : its.length = dvs.length := rT.length.symm
      have l2 : us.length = n := by
        rw [List.length_append, List.length_append, List.length_drop, l1, hl] at hlen
        omega
      obtain ⟨k, e1, e2⟩ := h _ T D doc pm an (.ref cda) ct us its ks l2 l1 hl
      refine BindsTo.of_looks fun M => ?_
      rw [e1]
      exact looks_items X lT oT (KwChain.looks X hks e2)
theorem FunC.kbinds (F : FunC K P x qual params body scope dvs kws D f fd) (n : Nat) (ks : List Str) (ms : List (Str × V)) (g : {α : Type} → List α → List α → List α → List α → List α) (hd : dvs ≠ []) (hk : kws ≠ []) (hms : ∀ q ∈ ms, q ∈ kws)
    (hrel : ∀ {vs ds mz zs : List V} {us its mv ws : List Value}, Vals vs us → Vals ds its → Vals mz mv → Vals zs ws → Vals (g vs ds mz zs) (g us its mv ws))
    (h : ∀ (cl : List (Str × Addr)) (T D : Addr) (doc pm : Value) (an : Option Addr) (cdv ct : Value) (us its mv ws : List Value), us.length = n → its.length = dvs.length → mv.length = ms.length → ws.length = ks.length →
      ∃ k, bindArgs (PySem.W.fnX x qual params body scope cl (.ref T) (.ref D) doc pm an cdv ct) ⟨us, ks.zip ws⟩ = seqItems? (.ref T) >>= k ∧ KwChain D ((ms.map (·.1)).zip mv) (k (some its.toArray)) (ps.zip (g us its mv ws))) :
    ∃ its mv : List Value, KBn K fd ps n ks (fun us ws => g us its mv ws) (fun vs zs => g vs dvs (ms.map (·.2)) zs) := by
  obtain ⟨cc, cda, oc, od, dV, kV, doc, pm, an, ct, osl, rfl, lk, hcd, hcode, hcell, hD, hK⟩ := F.ex
  rcases hD with ⟨e, _⟩ | ⟨_, T, o, its, m, rfl, lT, oT, rT⟩
  · exact absurd e hd
  · rcases hK with e | ⟨D, rfl, hq⟩
    · exact absurd e hk
    · obtain ⟨mv, hl, rk, hks⟩ := kwd_vals (ms := ms) fun q hm => hq q (hms q hm)
      refine ⟨its, mv, ⟨fun s us ws X l1 l2 => ?_, fun r1 r2 => hrel r1 rT rk r2⟩⟩
      obtain ⟨k, e1, e2⟩ := h _ T D doc pm an (.ref cda) ct us its mv ws l1 rT.length.symm hl l2
      refine BindsTo.of_looks fun M => ?_
      rw [e1]
      exact looks_items X lT oT (KwChain.looks X hks e2)
theorem FunC.bindsN (F : FunC K P x qual params body scope [] kws D f fd) (h : ∀ (cl : List (Str × Addr)) (kV doc pm : Value) (an : Option Addr) (cdv ct : Value) (us : List Value), us.length = ps.length → bindArgs (PySem.W.fnX x qual params body scope cl .none kV doc pm an cdv ct) ⟨us, []⟩ = pure (ps.zip us)) : Binds K fd ps [] := by
  obtain ⟨cc, cda, oc, od, dV, kV, doc, pm, an, ct, osl, rfl, lk, hcd, hcode, hcell, hD, hK⟩ := F.ex
  rcases hD with ⟨_, rfl⟩ | ⟨e, _⟩
  · exact .all (h _ kV doc pm an (.ref cda) ct)
  · exact absurd rfl e
theorem FunC.kbn (F : FunC K P x qual params body scope [] kws D f fd) (n : Nat) (ks : List Str) (g : List Value → List Value → List Value) (gV : List V → List V → List V)
    (hrel : ∀ {vs : List V} {us : List Value} {zs : List V} {ws : List Value}, Vals vs us → Vals zs ws → Vals (gV vs zs) (g us ws))
    (h : ∀ (cl : List (Str × Addr)) (kV doc pm : Value) (an : Option Addr) (cdv ct : Value) (us ws : List Value), us.length = n → ws.length = ks.length → bindArgs (PySem.W.fnX x qual params body scope cl .none kV doc pm an cdv ct) ⟨us, ks.zip ws⟩ = pure (ps.zip (g us ws))) : KBn K fd ps n ks g gV := by
  obtain ⟨cc, cda, oc, od, dV, kV, doc, pm, an, ct, osl, rfl, lk, hcd, hcode, hcell, hD, hK⟩ := F.ex
  rcases hD with ⟨_, rfl⟩ | ⟨e, _⟩
  · exact ⟨fun s us ws _ l1 l2 => BindsTo.of_eq (h _ kV doc pm an (.ref cda) ct us ws l1 l2), hrel⟩
  · exact absurd rfl e
end
/-! ### methods and calls of an instance whose class is one of several -/
/-- what each class of the family has: the def at g C keeps sp C -/
structure Fam1 (X : Cx) (CX : CXT) (k : Nat) (R : Addr → Prop) (m : Str) (ps : List Str) (sp : Addr → Sp) (C g : Addr) (fd : FuncData) : Prop where
  cl : Cls X.K C
  m : Meth X.K C m g
  ok : FnOk X.prog X.w X.K X.mg X.base CX k g fd ps (sp C)
  b : Binds X.K fd ps []
def Fam (X : Cx) (CX : CXT) (k : Nat) (R : Addr → Prop) (m : Str) (ps : List Str) (sp : Addr → Sp) : Prop := ∀ C, R C → ∃ g fd, Fam1 X CX k R m ps sp C g fd
/-- .. called with keywords -/
def FamK (X : Cx) (CX : CXT) (k : Nat) (R : Addr → Prop) (m : Str) (ps ks : List Str) (gV : List V → List V → List V) (sp : Addr → Sp) : Prop := ∀ C, R C → ∃ g fd gg, Fam1 X CX k R m ps sp C g fd ∧ KBn X.K fd ps 1 ks gg gV
def tMethF (R : Addr → Prop) (m : Str) (sp : Addr → Sp) (E : XK) (ta : TE) (t : TA) : TE := fun σ H Q => ta σ H fun x H1 => ∃ a C dx fs, x = .ref a ∧ H1 a = some (.ins C dx fs) ∧ R C ∧ fs.lookup m = none ∧ t σ H1 fun vs H2 => sp C (.ref a :: vs) H2 Q E
def tMethFK (R : Addr → Prop) (m : Str) (n : Nat) (sp : Addr → Sp) (gV : List V → List V → List V) (E : XK) (ta : TE) (tk : TA) : TE := fun σ H Q => ta σ H fun x H1 => ∃ a C dx fs, x = .ref a ∧ H1 a = some (.ins C dx fs) ∧ R C ∧ fs.lookup m = none ∧ tk σ H1 fun zs H2 => zs.length = n ∧ sp C (gV [.ref a] zs) H2 Q E
def FamC (X : Cx) (CX : CXT) (k : Nat) (R : Addr → Prop) (ps : List Str) (sp : Addr → Sp) : Prop := ∀ C, R C → ∃ g fd, StX.CallO X.K C g ∧ FnOk X.prog X.w X.K X.mg X.base CX k g fd ps (sp C) ∧ Binds X.K fd ps []
def FamCK (X : Cx) (CX : CXT) (k : Nat) (R : Addr → Prop) (ps ks : List Str) (gV : List V → List V → List V) (sp : Addr → Sp) : Prop := ∀ C, R C → ∃ g fd gg, StX.CallO X.K C g ∧ FnOk X.prog X.w X.K X.mg X.base CX k g fd ps (sp C) ∧ KBn X.K fd ps 1 ks gg gV
def tCallF (X : Cx) (R : Addr → Prop) (sp : Addr → Sp) (E : XK) (tf : TE) (t : TA) : TE := fun σ H Q => tf σ H fun y H1 => ∃ a C, y = V.ref a ∧ R C ∧ t σ H1 fun vs H2 => StX.InsC X H2 a C ∧ sp C (.ref a :: vs) H2 Q E
def tCallFK (X : Cx) (R : Addr → Prop) (n : Nat) (sp : Addr → Sp) (gV : List V → List V → List V) (E : XK) (tf : TE) (tk : TA) : TE := fun σ H Q => tf σ H fun y H1 => ∃ a C, y = V.ref a ∧ R C ∧ tk σ H1 fun zs H2 => zs.length = n ∧ StX.InsC X H2 a C ∧ sp C (gV [.ref a] zs) H2 Q E
section
variable {X : Cx} {CX : CXT} {k : Nat} {R : Addr → Prop} {m : Str} {ps ks : List Str} {sp : Addr → Sp} {E : XK} {o fe e : Expr} {es : List Expr} {kws : List Keyword} {ta tf : TE} {t tk : TA} {apos pos : Pos} {pl : Sem Bool} {gV : List V → List V → List V}
theorem pe_methF (he : PE X o ta) (F : Fam X CX k R m ps sp) (hr : Room k X.A) (hx : Passes CX X E) (ha : PA X (e :: es) t)
    (hst : starEach (e :: es) X.env = (false, eval e X.env) :: starEach es X.env := by rfl) (hpl : (backTo pos (starEach es X.env)).any (·.1) = false := by rfl)
    (ht : eval (.Call (.Attribute o m apos) (e :: es) [] pos) X.env = (do
      let ov ← eval o X.env
      standAt apos.atName
      let (f, first) ← holding [ov] (getMethod ov m pl)
      callWith pos f first (backTo pos (starEach (e :: es) X.env)) (backToKw pos (keywordEach [] X.env))) := by rfl) :
    PE X (.Call (.Attribute o m apos) (e :: es) [] pos) (tMethF R m sp E ta t) := by
  refine ⟨fun pins s σ H Q I h => ?_⟩
  refine PySem.W.methodCall_KW (pl := pl) (thn (he.run pins s σ H _ I h) fun u s1 ⟨x, H1, I1, rx, a, C, dx, fs, ex, ea, hR, l, q⟩ => ?_) ht
  subst ex
  obtain rfl : u = Value.ref a := rx
  obtain ⟨g, fd, F1⟩ := F C hR
  refine getmeth_ok I1 ea F1.cl F1.m l ?_
  refine PySem.W.callWith_K (first := [.ref a]) (h₀ := X.base) I.ok.mod.kin F1.m.kp (thn (ha.run pos pins s1 σ H1 _ I1 q) fun us s2 ⟨vs, H2, I2, r, q2⟩ => ⟨I2.kIn, ?_⟩) hst hpl
  exact run_fn (us := .ref a :: us) (vs := .ref a :: vs) F1.ok hr F1.b .nil hx I2 (.cons rfl r) (by rw [List.append_nil]; exact q2)
theorem pe_methFK (he : PE X o ta) (F : FamK X CX k R m ps ks gV sp) (hr : Room k X.A) (hx : Passes CX X E) (hkw : PK X kws tk)
    (hall : (backToKw pos (keywordEach kws X.env)).all (·.1.isSome) = true := by rfl) (hks : (backToKw pos (keywordEach kws X.env)).filterMap (·.1) = ks := by rfl)
    (hpl : ((backTo pos (starEach [] X.env)).any (·.1) || (backToKw pos (keywordEach kws X.env)).any (·.1.isNone)) = false := by rfl)
    (ht : eval (.Call (.Attribute o m apos) [] kws pos) X.env = (do
      let ov ← eval o X.env
      standAt apos.atName
      let (f, first) ← holding [ov] (getMethod ov m pl)
      callWith pos f first (backTo pos (starEach [] X.env)) (backToKw pos (keywordEach kws X.env))) := by rfl) :
    PE X (.Call (.Attribute o m apos) [] kws pos) (tMethFK R m ks.length sp gV E ta tk) := by
  refine ⟨fun pins s σ H Q I h => ?_⟩
  refine PySem.W.methodCall_KW (pl := pl) (thn (he.run pins s σ H _ I h) fun u s1 ⟨x, H1, I1, rx, a, C, dx, fs, ex, ea, hR, l, q⟩ => ?_) ht
  subst ex
  obtain rfl : u = Value.ref a := rx
  obtain ⟨g, fd, gg, F1, hb⟩ := F C hR
  refine getmeth_ok I1 ea F1.cl F1.m l ?_
  refine PySem.W.callWith_KW0 (h₀ := X.base) I.ok.mod.kin F1.m.kp hall ?_ hpl
  refine thn (hkw.run pos pins s1 σ H1 _ I1 q) fun ws s2 ⟨zs, H2, I2, rz, l1, q2⟩ => ⟨I2.kIn, ?_⟩
  rw [hks]
  exact run_fnN (us := [.ref a]) (vs := [.ref a]) F1.ok hr hb hx I2 (.cons rfl .nil) rz rfl l1 q2
theorem pe_callF (hf : PE X fe tf) (F : FamC X CX k R ps sp) (hr : Room k X.A) (hx : Passes CX X E) (ha : PA X (e :: es) t)
    (ht : eval (.Call fe (e :: es) [] pos) X.env = (do callWith pos (← eval fe X.env) [] (backTo pos (starEach (e :: es) X.env)) (backToKw pos (keywordEach [] X.env))) := by rfl)
    (he : starEach (e :: es) X.env = (false, eval e X.env) :: starEach es X.env := by rfl) (hpl : (backTo pos (starEach es X.env)).any (·.1) = false := by rfl) : PE X (.Call fe (e :: es) [] pos) (tCallF X R sp E tf t) := by
  refine ⟨fun pins s σ H Q I h => ?_⟩
  refine Call_ (thn (hf.run pins s σ H _ I h) fun u s1 ⟨y, H1, I1, ry, a, C, ey, hR, q⟩ => ?_) ht
  subst ey
  obtain rfl : u = Value.ref a := ry
  obtain ⟨g, fd, c, F1, b⟩ := F C hR
  refine StX.callO_with (thn (ha.run pos pins s1 σ H1 _ I1 q) fun us s2 ⟨vs, H2, I2, r, hi, q2⟩ => ?_) he hpl
  obtain ⟨ox, od, J, hd⟩ := StX.insC_at I2 hi
  exact ⟨⟨C, ox, od, J, hd⟩, StX.run_callO c (F1.raw b .nil) hr hx I2 hi r (by rw [List.append_nil]; exact q2)⟩
theorem pe_callFK (hf : PE X fe tf) (F : FamCK X CX k R ps ks gV sp) (hr : Room k X.A) (hx : Passes CX X E) (hkw : PK X kws tk)
    (hall : (backToKw pos (keywordEach kws X.env)).all (·.1.isSome) = true := by rfl) (hks : (backToKw pos (keywordEach kws X.env)).filterMap (·.1) = ks := by rfl)
    (hpl : ((backTo pos (starEach [] X.env)).any (·.1) || (backToKw pos (keywordEach kws X.env)).any (·.1.isNone)) = false := by rfl)
    (ht : eval (.Call fe [] kws pos) X.env = (do callWith pos (← eval fe X.env) [] (backTo pos (starEach [] X.env)) (backToKw pos (keywordEach kws X.env))) := by rfl) : PE X (.Call fe [] kws pos) (tCallFK X R ks.length sp gV E tf tk) := by
  refine ⟨fun pins s σ H Q I h => ?_⟩
  rw [ht]
  refine wpAny_bind (thn (hf.run pins s σ H _ I h) fun u s1 ⟨y, H1, I1, ry, a, C, ey, hR, q⟩ => ?_)
  subst ey
  obtain rfl : u = Value.ref a := ry
  obtain ⟨g, fd, gg, c, F1, hb⟩ := F C hR
  refine callO_ofK hpl (evalArgs_kw2_nil hall (thn (hkw.run pos pins s1 σ H1 _ I1 q) fun ws s2 ⟨zs, H2, I2, rz, l1, hi, q2⟩ => ?_))
  obtain ⟨ox, od, J, hd⟩ := StX.insC_at I2 hi
  refine ⟨⟨C, ox, od, J, hd⟩, ?_⟩
  rw [hks]
  have r2 := hb.rel (show Vals [V.ref a] [Value.ref a] from .cons rfl .nil) rz
  have hbb := hb.to s2 [.ref a] ws I2.kIn rfl (rz.length.symm.trans l1)
  refine wpAny_call (PySem.W.kco_code I2.kIn J hd c.at_ c.fn c.fi (codeAny_mono (F1.run X.A X.stack s2 H2 ⟨[.ref a], ks.zip ws⟩ (gg [.ref a] ws) (gV [.ref a] zs) Q E hr I2.env0 hbb r2 q2) fun r s' hq => ?_))
  cases r with
  | error e => exact hx pins σ H2 s2 e s' I2 hq
  | ok fl =>
    cases fl with
    | ret u => exact I2.after hq
    | next => exact False.elim hq
    | brk => exact False.elim hq
    | cont => exact False.elim hq
end
end SupX
/-! ### tuples of whole numbers of any lengths, in order -/
namespace SrtX
open PySem PyProof.Rows Srt SrtO
def lexI : List Int → List Int → Bool
  | [], [] => false
  | [], _ :: _ => true
  | _ :: _, [] => false
  | x :: xs, y :: ys => if x = y then lexI xs ys else decide (x < y)
theorem lexI_asym : ∀ {x y : List Int}, lexI x y = true → lexI y x = false
  | [], [], h => by cases h
  | [], _ :: _, _ => rfl
  | _ :: _, [], h => by cases h
  | x :: xs, y :: ys, h => by
    unfold lexI at h ⊢
    by_cases e : x = y
    · rw [if_pos e] at h
      rw [if_pos e.symm]
      exact lexI_asym h
    · rw [if_neg e] at h
      rw [if_neg (fun z => e z.symm)]
      have := of_decide_eq_true h
      exact decide_eq_false (by omega)
theorem lexI_tr : ∀ {x y z : List Int}, lexI y x = false → lexI z y = false → lexI z x = false
  | [], [], _, _, h => h
  | [], _ :: _, [], _, h => by cases h
  | [], _ :: _, _ :: _, h1, h2 => rfl
  | _ :: _, [], _, h, _ => by cases h
  | _ :: _, _ :: _, [], _, h => by cases h
  | x :: xs, y :: ys, z :: zs, h1, h2 => by
    unfold lexI at h1 h2 ⊢
    by_cases e1 : y = x
    · rw [if_pos e1] at h1
      by_cases e2 : z = y
      · rw [if_pos e2] at h2
        rw [if_pos (e2.trans e1)]
        exact lexI_tr h1 h2
      · rw [if_neg e2] at h2
        rw [if_neg (fun q => e2 (q.trans e1.symm)), ← e1]
        exact h2
    · rw [if_neg e1] at h1
      have l1 := of_decide_eq_false h1
      by_cases e2 : z = y
      · rw [if_neg (fun q => e1 (e2.symm.trans q)), e2]
        exact h1
      · rw [if_neg e2] at h2
        have l2 := of_decide_eq_false h2
        rw [if_neg (by omega)]
        exact decide_eq_false (by omega)
theorem swo_lexI (k : Value → List Int) : Swo fun v u => lexI (k v) (k u) := ⟨fun _ _ h => lexI_asym h, fun _ _ _ h1 h2 => lexI_tr h1 h2⟩
/-- the value is a tuple of these whole numbers -/
def IsTI (h : Heap) (v : Value) (ns : List Int) : Prop := ∃ (a : Addr) (o : Obj) (its : List Value) (n : Nat), v = .ref a ∧ h.get? a = some o ∧ o.cls = .type "tuple" ∧ o.data = .seq its.toArray n ∧ Paired (fun (i : Int) (u : Value) => ∃ t, u = .int i t) ns its
theorem IsTI.keeps {h h' : Heap} {v : Value} {ns : List Int} (x : IsTI h v ns) (k : ∀ b o, h.get? b = some o → o.cls = .type "tuple" → h'.get? b = some o) : IsTI h' v ns := by
  obtain ⟨a, o, its, n, e, ho, hc, hd, p⟩ := x
  exact ⟨a, o, its, n, e, k _ _ ho hc, hc, hd, p⟩
section
variable {prog : Program} {w : World} {A : Around} {s : Shared}
theorem kat_ints : ∀ {xs ys : List Int} {us vs : List Value} (i : Nat), Paired (fun (i : Int) (u : Value) => ∃ t, u = .int i t) xs us → Paired (fun (i : Int) (u : Value) => ∃ t, u = .int i t) ys vs →
    PySem.W.KatLex prog w A true (decide (xs.length < ys.length)) (fun r s' => s' = s ∧ r = lexI xs ys) (us.zip vs) i s
  | [], [], _, _, i, .nil, .nil => PySem.W.kat_nil ⟨rfl, rfl⟩
  | [], _ :: _, _, _, i, .nil, .cons _ _ => PySem.W.kat_nil ⟨rfl, by rw [List.length_nil, List.length_cons]; exact decide_eq_true (Nat.succ_pos _)⟩
  | _ :: _, [], _, _, i, .cons _ _, .nil => PySem.W.kat_nil ⟨rfl, by rw [List.length_nil]; exact decide_eq_false (Nat.not_lt_zero _)⟩
  | x :: xs, y :: ys, _, _, i, .cons (l₂ := us) h1 t1, .cons (l₂ := vs) h2 t2 => by
    obtain ⟨t, rfl⟩ := h1
    obtain ⟨u, rfl⟩ := h2
    refine PySem.W.kat_cons (SeqAt.EqAt.int_int x t y u prog w _ _ ?_)
    refine PySem.W.kat_go (fun e => ?_) (fun e => ?_)
    · have e : x = y := by simpa using e
      refine PySem.W.kat_yes ?_
      have ih := kat_ints (i + 1) t1 t2
      have el : (xs.length < ys.length) = ((x :: xs).length < (y :: ys).length) := by
        rw [List.length_cons, List.length_cons, Nat.succ_lt_succ_iff]
      have ev : lexI (x :: xs) (y :: ys) = lexI xs ys := by
        rw [lexI, if_pos e]
      rw [ev]
      simp only [List.length_cons, Nat.add_lt_add_iff_right]
      exact ih
    · have e : ¬ x = y := by simpa using e
      have ev : lexI (x :: xs) (y :: ys) = decide (x < y) := by
        rw [lexI, if_neg e]
      rw [ev]
      refine PySem.W.kat_no ?_
      cases hb : (true && i == 0) with
      | true => exact oneLt_int ⟨rfl, rfl⟩
      | false => exact PySem.W.kat_one _ _ (PyProof.Rows.lt_int (show s = s ∧ decide (x < y) = decide (x < y) from ⟨rfl, rfl⟩))
theorem tup_cmp {vs : List Value} {k : Value → List Int} (hp : ∀ v ∈ vs, IsTI s.heap v (k v)) : Cmp prog w A s (tuples' true) (fun p => p.1 ∈ vs) (lt2 fun v u => lexI (k v) (k u)) := by
  intro p q hm hm'
  have h1 := hp _ hm
  have h2 := hp _ hm'
  show wpAny (model prog w) A (keyLt' (tuples' true) p.1 q.1) (fun r s' => s' = s ∧ r = lexI (k p.1) (k q.1)) (fun _ _ => False) s
  generalize k p.1 = x at h1 ⊢
  generalize k q.1 = y at h2 ⊢
  obtain ⟨a, o, its, n, e, ho, hc, hd, p1⟩ := h1
  obtain ⟨a', o', its', n', e', ho', hc', hd', p2⟩ := h2
  rw [e, e']
  refine PySem.W.kat_lt ho hd ho' hd' ?_
  have l1 : its.toArray.size = x.length := by rw [List.size_toArray]; exact (Paired.length p1).symm
  have l2 : its'.toArray.size = y.length := by rw [List.size_toArray]; exact (Paired.length p2).symm
  rw [l1, l2]
  exact kat_ints 0 p1 p2
theorem firstsI {h : Heap} : ∀ {vs : List Value} {k : Value → List Int}, (∀ v ∈ vs, IsTI h v (k v) ∧ k v ≠ []) → ∃ fs : List Value, PySem.W.KatTups h vs fs ∧ fs.length = vs.length ∧ ∀ f ∈ fs, ∃ x t, f = Value.int x t
  | [], _, _ => ⟨[], PySem.W.KatTups.nil, rfl, fun _ hm => by simp at hm⟩
  | v :: vs, k, hp => by
    obtain ⟨fs, h1, h2, h3⟩ := firstsI (vs := vs) (k := k) fun v' hm => hp v' (List.mem_cons_of_mem _ hm)
    obtain ⟨⟨a, o, its, n, e, ho, hc, hd, p⟩, ne⟩ := hp v (List.mem_cons_self ..)
    subst e
    generalize k (.ref a) = ks at p ne
    cases p with
    | nil => exact absurd rfl ne
    | cons hx tl =>
      obtain ⟨t, rfl⟩ := hx
      refine ⟨_ :: fs, PySem.W.KatTups.cons ho hc hd rfl h1, by rw [List.length_cons, List.length_cons, h2], fun f hm => ?_⟩
      rcases List.mem_cons.mp hm with rfl | hm
      · exact ⟨_, t, rfl⟩
      · exact h3 f hm
theorem tups_sortableO {a : Addr} {vs : List Value} {k : Value → List Int} (h0 : 0 < vs.length) (hp : ∀ v ∈ vs, IsTI s.heap v (k v) ∧ k v ≠ []) (ha : ∀ o, s.heap.get? a = some o → o.cls ≠ .type "tuple") : SortableO prog w A s a vs fun v u => lexI (k v) (k u) := by
  intro h' keep
  have hp' : ∀ v ∈ vs, IsTI h' v (k v) ∧ k v ≠ [] := fun v hm => ⟨(hp v hm).1.keeps fun b o e c => keep b o (fun z => by subst z; exact ha o e c) e, (hp v hm).2⟩
  obtain ⟨fs, h1, h2, h3⟩ := firstsI hp'
  refine ⟨tuples' true, fun Q E hq => ?_, tup_cmp fun v hm => (hp' v hm).1⟩
  refine PySem.W.kat_kind (T := .type "int") h1 (by omega) (fun f hm => ?_) (by rfl) ?_
  · obtain ⟨x, t, rfl⟩ := h3 f hm
    exact PySem.W.Looks.now
  · have e : (Value.type "int" != Value.type "tuple") = true := by first | decide +kernel | rfl | decide
    rw [e]
    exact hq
end
end SrtX
/-! ### dict(d) and sorted(d) of dicts with tuple keys -/
namespace SupX
open PySem PySem.Spec PyProof.Rows L2
def kHash (k : List Key) : Int := reduceHash (Builtin.Tuple.tupleHashOf (k.map fun x => match x with
  | .inl i => hashInt i
  | .inr _ => 0))
def intKey (k : List Key) : Prop := ∀ x ∈ k, ∃ i, x = Sum.inl i
theorem kHash_of {P : Program} {w : World} {k : List Key} (h : intKey k) : (tupleKind (mixKind P w)).hash k = kHash k := by
  show reduceHash (Builtin.Tuple.tupleHashOf (k.map (mixKind P w).hash)) = _
  unfold kHash
  have e : k.map (mixKind P w).hash = k.map fun x => match x with
      | .inl i => hashInt i
      | .inr _ => 0 := by
    refine List.map_congr_left fun x hx => ?_
    obtain ⟨i, rfl⟩ := h x hx
    rfl
  rw [e]
section
variable {X : Cx}
theorem paired_map {α β γ : Type} {F : α → β → Prop} {f : α → γ} {g : β → γ} (h : ∀ a b, F a b → f a = g b) : ∀ {l₁ : List α} {l₂ : List β}, Paired F l₁ l₂ → l₁.map f = l₂.map g
  | _, _, .nil => rfl
  | _, _, .cons r t => by rw [List.map_cons, List.map_cons, h _ _ r, paired_map h t]
theorem paired_mem {α β : Type} {F : α → β → Prop} : ∀ {l₁ : List α} {l₂ : List β}, Paired F l₁ l₂ → ∀ b ∈ l₂, ∃ a ∈ l₁, F a b
  | _, _, .nil, b, h => by cases h
  | _, _, .cons (a := a0) r t, b, h => by
    rcases List.mem_cons.mp h with rfl | h
    · exact ⟨_, List.mem_cons_self, r⟩
    · obtain ⟨a, m, f⟩ := paired_mem t b h
      exact ⟨a, List.mem_cons_of_mem _ m, f⟩
theorem call_dictH {K : Type} [DecidableEq K] {prog : Program} {w : World} {knd : HeapKind prog w K} {A : Around} {E : Value → Shared → Prop} {s : Shared} {o : Addr} {more : List (K × Addr × Value)} {Q : Value → Shared → Prop} (hu : knd.room A.in1.in1) (hoS : (o == sysModules) = false) (ho : s.heap.DictOfH knd o more) (hsz : more.length ≤ sizeLine)
    (hty : ∀ x ∈ more, s.TypeIs (.ref x.2.1) "tuple") (hap : (more.map fun x => knd.hash x.1).Nodup) (his : ∀ x ∈ more, knd.is (s.heap.push { cls := .type "dict", data := .dict #[] }) x.1 x.2.1)
    (h : ∀ h', h'.DictOfH knd s.heap.objs.size more → Heap.SameBut s.heap.objs.size (s.heap.push { cls := .type "dict", data := .dict #[] }) h' → Q (.ref s.heap.objs.size) { s with heap := h' }) :
    wpAny (model prog w) A (call (.type "dict") [.ref o]) Q E s := by
  refine callType_codes (Q₁ := fun obj s₁ => obj = .ref s.heap.objs.size ∧ s₁ = { s with heap := s.heap.push { cls := .type "dict", data := .dict #[] } }) F.kt_called_dict (F.kt_typeCall_dict_1 _) F.entry_dict_init (kt_code_dict_new _ ⟨rfl, rfl⟩) ?_
  rintro obj s₁ ⟨rfl, rfl⟩
  have hgn : (s.heap.push { cls := .type "dict", data := .dict #[] }).get? s.heap.objs.size = some { cls := .type "dict", data := .dict #[] } := Heap.get?_push_size _ rfl
  have hnew : (s.heap.push { cls := .type "dict", data := .dict #[] }).DictOfH knd s.heap.objs.size [] := ⟨_, #[], _, hgn, ⟨rfl, rfl, rfl⟩, rfl, rfl, (fun x hx => absurd hx (by simp)), List.nodup_nil⟩
  have ho' : (s.heap.push { cls := .type "dict", data := .dict #[] }).DictOfH knd o more := by
    obtain ⟨oo, es, ep, h1, h2, h3, h4, h5, h6⟩ := ho
    exact ⟨oo, es, ep, Heap.get?_push_of_some _ h1, h2, h3, h4, his, h6⟩
  have hn : (more.map (·.1)).Nodup := ho.nodup
  have hdo : s.heap.objs.size ≠ o := by
    obtain ⟨_, _, _, hg, _⟩ := ho
    exact fun e => absurd (Heap.lt_size hg) (by rw [e]; exact Nat.lt_irrefl _)
  have hT : ({ s with heap := s.heap.push { cls := .type "dict", data := .dict #[] } } : Shared).TypeIs (.ref s.heap.objs.size) "dict" := ⟨_, hgn, rfl⟩
  refine ⟨hT, F.args_dict_init_2 _ _, ?_⟩
  unfold Builtin.«dict.__init__»
  refine wpAny_bind ?_
  unfold Builtin.Dict.selfAndRest
  refine wpAny_bind (wpAny_notOrdered_dict hT ?_)
  show wpAny _ _ (pure (s.heap.objs.size, [Value.ref o])) _ _ _
  refine wpAny_pure ?_
  show wpAny _ _ (Builtin.Dict.updateFrom "dict.__init__" s.heap.objs.size (.ref o) [] .none) _ _ _
  unfold Builtin.Dict.updateFrom
  refine wpAny_bind (wpAny_typeOf ho'.typeIs ?_)
  rw [if_neg (by decide)]
  refine wpAny_bind ?_
  unfold Builtin.Dict.merge
  refine wpAny_bind ?_
  unfold Builtin.Dict.readDirectly
  refine wpAny_bind (wpAny_isInstance ho'.typeIs isSubtype_dict_dict ?_)
  simp only [Bool.not_true, Bool.false_eq_true, if_false]
  refine wpAny_bind (wpAny_specialOf ho'.typeIs F.slot_dict_iter.lookup (wpAny_pure ?_))
  simp only [beq_self_eq_true, if_true]
  refine wpAny_bind (wpAny_pure ?_)
  have hty' : ∀ x ∈ more, ({ s with heap := s.heap.push { cls := .type "dict", data := .dict #[] } } : Shared).TypeIs (.ref x.2.1) "tuple" := fun x hx => by
    obtain ⟨o2, e1, e2⟩ := hty x hx
    exact ⟨o2, Heap.get?_push_of_some _ e1, e2⟩
  refine wpAny_mergeDict_heap (hsz := by simpa using hsz) hu hdo hoS hnew ho' (.inr ⟨hty', hap⟩) fun h' hd' _ hs' => ?_
  show wpAny _ _ (Builtin.Dict.addKeywords s.heap.objs.size [] >>= _) _ _ _
  rw [storedAllH_nil_of_nodup more hn] at hd'
  exact wpAny_bind (wpAny_pure (wpAny_pure ⟨rfl, h h' hd' hs'⟩))
/-- dict(d), the keys tuples of ints with different hashes: a copy -/
theorem call_dictT (hu : X.A.units + 64 < cLine) : CallR X (.type "dict") (fun xs H Q => ∃ (a : Addr) (kvs : List (List Key × V)), xs = [.ref a] ∧ Rd H a (.dT kvs) ∧ (∀ p ∈ kvs, intKey p.1) ∧ (kvs.map fun p => kHash p.1).Nodup ∧ ∀ p, H p = none → Q (.ref p) (upd H p (.dT kvs))) := by
  intro pins s σ H xs us Q I r q
  obtain ⟨a, kvs, ex, hd, hik, hnd, q⟩ := q
  subst ex
  obtain ⟨u, eu, rx⟩ := vals1 r
  subst eu
  cases rx
  obtain ⟨z, lo, ks, pr, dd⟩ := dt_rd I.hok hd
  have hlen : kvs.length = ks.length := Paired.length pr
  have hm : (s.heap.objs.size == sysModules) = false := beq_eq_false_iff_ne.mpr (Nat.ne_of_gt I.big)
  have tup : ∀ x ∈ ks, H x.2.1 = some (.tup (x.1.map kV)) := fun x hx => by
    obtain ⟨p, _, e1, e2, _⟩ := paired_mem pr x hx
    rw [← e1]
    exact e2
  have hh : (ks.map fun x => (tupleKind (mixKind X.prog X.w)).hash x.1) = kvs.map fun p => kHash p.1 := by
    refine (paired_map (F := fun p q => (p.1 = q.1 ∧ H q.2.1 = some (.tup (p.1.map kV)) ∧ RelV p.2 q.2.2) ∧ p ∈ kvs) (fun p x hp => ?_) ?_).symm
    · rw [← hp.1.1, kHash_of (hik p hp.2)]
    · have go : ∀ {l : List (List Key × V)} {m : List (List Key × Addr × Value)}, KT H l m → (∀ p ∈ l, p ∈ kvs) → Paired (fun p q => (p.1 = q.1 ∧ H q.2.1 = some (.tup (p.1.map kV)) ∧ RelV p.2 q.2.2) ∧ p ∈ kvs) l m := by
        intro l m r
        induction r with
        | nil => exact fun _ => .nil
        | cons h t ih => exact fun hm => .cons ⟨h, hm _ List.mem_cons_self⟩ (ih fun p hp => hm p (List.mem_cons_of_mem _ hp))
      exact go pr fun _ h => h
  have I1 : ∀ b o, s.heap.get? b = some o → (s.heap.push { cls := .type "dict", data := .dict #[] }).get? b = some o := fun b o e => Heap.get?_push_of_some _ e
  refine call_dictH (show X.A.in1.in1.units < cLine from Nat.lt_of_le_of_lt (show X.A.units + 2 ≤ X.A.units + 64 by omega) hu) lo dd (by rw [← hlen]; exact z) (fun x hx => ?_) (by rw [hh]; exact hnd) (fun x hx => key_of (I.hok.kept I1) (tup x hx)) fun h' d' hs => ?_
  · obtain ⟨_, its, _, o, h1, h2, _⟩ := I.hok _ _ (tup x hx)
    exact ⟨o, h1, h2⟩
  · refine ⟨.ref s.heap.objs.size, upd H s.heap.objs.size (.dT kvs), I.laid (t' := s.toks) (fun b u e => (hs.2 b (Nat.ne_of_lt (Heap.lt_size e))).trans (Heap.get?_push_of_some _ e)) (Nat.le_refl _) ?_, rfl, q _ (I.hok.fresh (Nat.le_refl _))⟩
    obtain ⟨o, es, ep, e1, e2, e3, e4, _, e6⟩ := d'
    refine ⟨z, hm, ks, ?_, o, es, ep, e1, e2, e3, e4, e6⟩
    exact pr.keeps fun b ys e => by rw [upd_ne (ne_of_none e (I.hok.fresh (Nat.le_refl _)))]; exact e
end
end SupX
namespace SupX
open PySem PySem.Spec PyProof.Rows L2
/-- the whole numbers of a tracked tuple -/
def intsAt (H : Hp) (v : Value) : List Int := match v with
  | .ref b => (match H b with
    | some (.tup xs) => xs.map fun x => match x with
      | .int i => i
      | _ => 0
    | _ => [])
  | _ => []
def keyInts (k : List Key) : List Int := k.map fun x => match x with
  | .inl i => i
  | .inr _ => 0
section
variable {X : Cx}
theorem intsAt_key {H : Hp} {b : Addr} {k : List Key} (h : H b = some (.tup (k.map kV))) (hi : intKey k) : intsAt H (.ref b) = keyInts k := by
  unfold intsAt keyInts
  simp only [h]
  rw [List.map_map]
  refine List.map_congr_left fun x hx => ?_
  obtain ⟨i, rfl⟩ := hi x hx
  rfl
theorem isTI_key {pins : List (Addr × Obj)} {σ : L2.St} {H : Hp} {s : Shared} {b : Addr} {k : List Key} (I : Inv X pins σ H s) (h : H b = some (.tup (k.map kV))) (hi : intKey k) : SrtX.IsTI s.heap (.ref b) (intsAt H (.ref b)) := by
  rw [intsAt_key h hi]
  obtain ⟨_, its, r, o, h1, h2, n, h3⟩ := I.hok _ _ h
  refine ⟨b, o, its, n, rfl, h1, h2, h3, ?_⟩
  have go : ∀ {k : List Key} {its : List Value}, intKey k → Vals (k.map kV) its → Paired (fun (i : Int) (u : Value) => ∃ t, u = .int i t) (keyInts k) its := by
    intro k
    induction k with
    | nil => intro its _ r; cases r; exact .nil
    | cons x k ih =>
      intro its hi r
      cases r with
      | cons h t =>
        obtain ⟨i, rfl⟩ := hi x List.mem_cons_self
        exact .cons h (ih (fun y hy => hi y (List.mem_cons_of_mem _ hy)) t)
  exact go hi r
/-- sorted(d) of a dict whose keys are tuples of ints -/
theorem call_sortedT (hc : X.calm = true) : CallR X (.builtin "sorted") (fun xs H Q => ∃ (a : Addr) (kvs : List (List Key × V)), xs = [.ref a] ∧ Rd H a (.dT kvs) ∧ (∀ p ∈ kvs, intKey p.1 ∧ p.1 ≠ []) ∧
    ∀ (ys : List V) (p : Addr) (bs : List Addr), IsKeys H kvs bs → ys.Perm (bs.map V.ref) → H p = none → Q (.ref p) (upd H p (.lst ys))) := by
  intro pins s σ H xs us Q I r h
  obtain ⟨d, kvs, rfl, hd, hik, q⟩ := h
  obtain ⟨u, rfl, rx⟩ := r.one
  cases rx
  obtain ⟨z, hs, ks, pr, o, es, ep, ho, hx, hdt, he, hn⟩ := (show ObjOk X.prog X.w H s.heap d (.dT kvs) from hd.ok I.hok)
  have l1 : es.size = ks.length := size_of_entries he
  have l2 : kvs.length = ks.length := Paired.length pr
  refine Calls.call_function_entry PyProof.Rows.kind_sorted PyProof.Rows.plain_sorted PyProof.Rows.entry_sorted (PyProof.Rows.args_sorted1 _) ?_
  unfold Builtin.«sorted»
  refine wpAny_bind (m := checkCount "sorted" 1 1 _) (wpAny_pure ?_)
  refine wpAny_bind (PySem.W.kdu_collect (A := X.A.in1) (kdl_raw hs hx hdt) (I.ok.hd hc) ho (by omega) fun h' tk acc' hk it => ?_)
  have ea : acc'.toList = ks.map fun x => Value.ref x.2.1 := by
    have hl : acc'.toList.length = ks.length := by rw [Array.length_toList, it.1]; exact l1
    apply List.ext_getElem?
    intro j
    rw [List.getElem?_map]
    cases hj : acc'.toList[j]? with
    | none =>
      have h1 := List.getElem?_eq_none_iff.mp hj
      rw [List.getElem?_eq_none (by omega)]
      all_goals rfl
    | some v =>
      obtain ⟨en, hen, hv⟩ := it.2 j v (by rw [← Array.getElem?_toList]; exact hj)
      have qe := entry_at he j
      rw [hen] at qe
      cases hb : ks[j]? with
      | none =>
        rw [hb] at qe
        exact nomatch (show some en = none from qe)
      | some b =>
        rw [hb] at qe
        have e2 : en = entryOfKey (tupleKind (mixKind X.prog X.w)) b := Option.some.inj qe
        rw [hv, e2]
        all_goals rfl
  have eb : acc'.toList = (ks.map fun x => x.2.1).map Value.ref := by rw [ea, List.map_map]; all_goals rfl
  have I1 : Inv X pins σ H { s with heap := h', toks := tk } := I.kept hk
  have hlen : acc'.toList.length ≤ sizeLine := by rw [ea, List.length_map]; omega
  refine wpAny_bind (wpAny_newList ?_ hlen)
  have hoL : (h'.push (seqObj "list" acc'.toList.toArray 0)).get? h'.objs.size = some (seqObj "list" acc'.toList.toArray 0) := Heap.get?_push_size _ rfl
  have I2 : Inv X pins σ H { s with heap := h'.push (seqObj "list" acc'.toList.toArray 0), toks := tk } := I1.kept (t' := tk) fun b o e => Heap.get?_push_of_some _ e
  show wpAny _ _ _ _ _ { s with heap := h'.push (seqObj "list" acc'.toList.toArray 0), toks := tk }
  have tis : ∀ v ∈ acc'.toList, SrtX.IsTI (h'.push (seqObj "list" acc'.toList.toArray 0)) v (intsAt H v) ∧ intsAt H v ≠ [] := fun v hv => by
    rw [ea] at hv
    obtain ⟨x, hx, rfl⟩ := List.mem_map.mp hv
    obtain ⟨p, hp, e1, e2, _⟩ := paired_mem pr x hx
    refine ⟨isTI_key I2 e2 (hik p hp).1, ?_⟩
    rw [intsAt_key e2 (hik p hp).1]
    intro e
    refine (hik p hp).2 ?_
    unfold keyInts at e
    exact List.map_eq_nil_iff.mp e
  refine wpAny_bind (wpAny_holding (wpAny_call_entry PyProof.Rows.slot_list_sort ⟨_, hoL, rfl⟩ PyProof.Rows.entry_list_sort
    (SrtO.list_sort_ord (s := { s with heap := h'.push (seqObj "list" acc'.toList.toArray 0), toks := tk }) (SrtX.swo_lexI (intsAt H)) hoL hlen (fun h2 => SrtX.tups_sortableO (by omega) tis fun o e => ?_) fun out hso hb => ⟨_, rfl, ?_⟩)
    (PyProof.Rows.args_list_sort _)))
  · have e' : some o = some (seqObj "list" acc'.toList.toArray 0) := e.symm.trans hoL
    cases e'
    intro c
    exact absurd (Value.type.inj c) (by decide)
  · obtain ⟨e', he'⟩ := PyProof.Rows.sortedHeap_at (vs := acc'.toList) (out := out.toArray) hoL
    have h3 : ∀ u ∈ out, ∃ a, u = Value.ref a := fun u hu => by
      have := hb.perm.mem_iff.mp hu
      rw [ea] at this
      obtain ⟨x, _, rfl⟩ := List.mem_map.mp this
      exact ⟨_, rfl⟩
    have hp2 : (out.map bkV).Perm ((ks.map fun x => x.2.1).map V.ref) := by
      have := hb.perm.map bkV
      rw [eb, List.map_map] at this
      exact this
    have hlen2 : (out.map bkV).length ≤ sizeLine := by
      rw [hp2.length_eq, List.length_map, List.length_map]
      omega
    refine wpAny_pure ⟨_, rfl, .ref h'.objs.size, upd H h'.objs.size (.lst (out.map bkV)), I1.laid (t' := tk) (fun b u e => ?_) (Nat.le_refl _) ⟨hlen2, out, e', bkV_vals h3, he'⟩, rfl, q _ _ _ (isKeys_of pr) hp2 (I1.hok.fresh (Nat.le_refl _))⟩
    have hb : b < h'.objs.size := Heap.lt_size e
    rw [PyProof.Rows.sortedHeap_old (Nat.ne_of_lt hb) (by rw [size_push']; exact Nat.lt_succ_of_lt hb)]
    exact Heap.get?_push_of_some _ e
end
end SupX
namespace XV
open PySem PySem.W PySem.Calls PySem.Builtin PySem.Builtin.ObjectAttr PyProof.Rows PySem.HandSPX
/-- own classes, then the base's mro -/
def refsT (tail : List Value) : List Value → Bool
  | .ref _ :: r => refsT tail r
  | l => l == tail
theorem refsT_cases {tail : List Value} : ∀ l : List Value, refsT tail l = true → (∃ c r, l = .ref c :: r ∧ refsT tail r = true) ∨ l = tail
  | [], e => .inr (beq_iff_eq.mp e)
  | .ref c :: r, e => .inl ⟨c, r, rfl, e⟩
  | .none :: _, e => .inr (beq_iff_eq.mp e)
  | .ellipsis :: _, e => .inr (beq_iff_eq.mp e)
  | .notImplemented :: _, e => .inr (beq_iff_eq.mp e)
  | .bool _ :: _, e => .inr (beq_iff_eq.mp e)
  | .int _ _ :: _, e => .inr (beq_iff_eq.mp e)
  | .float _ _ :: _, e => .inr (beq_iff_eq.mp e)
  | .str _ _ :: _, e => .inr (beq_iff_eq.mp e)
  | .bytes _ _ :: _, e => .inr (beq_iff_eq.mp e)
  | .type _ :: _, e => .inr (beq_iff_eq.mp e)
  | .builtin _ :: _, e => .inr (beq_iff_eq.mp e)
/-- what the base's mro must keep -/
structure TailOk (tail : List Value) : Prop where
  pass : ∀ self, refuseLoop self "__setattr__" tail = pure ()
  obj : tail.contains (.type "object") = true
theorem TailOk.ne {tail : List Value} (T : TailOk tail) : tail ≠ [] := fun e => by
  have h := T.obj
  rw [e] at h
  cases h
theorem refsT_pass {tail : List Value} (T : TailOk tail) (self : Value) : ∀ l : List Value, refsT tail l = true → refuseLoop self "__setattr__" l = pure () := by
  intro l
  induction l with
  | nil => intro e; exact absurd (beq_iff_eq.mp e).symm T.ne
  | cons a r ih =>
    intro e
    rcases refsT_cases (a :: r) e with ⟨c, r', q, h⟩ | q
    · obtain ⟨rfl, rfl⟩ := List.cons.inj q
      rw [refuseLoop_ref]; exact ih h
    · rw [q]; exact T.pass self
theorem refsT_contains {tail : List Value} (T : TailOk tail) (X : String) : ∀ l : List Value, refsT tail l = true → l.contains (.type X) = tail.contains (.type X) := by
  intro l
  induction l with
  | nil => intro e; exact absurd (beq_iff_eq.mp e).symm T.ne
  | cons a r ih =>
    intro e
    rcases refsT_cases (a :: r) e with ⟨c, r', q, h⟩ | q
    · obtain ⟨rfl, rfl⟩ := List.cons.inj q
      rw [List.contains_cons, ih h]; rfl
    · rw [q]
theorem refsT_ne {tail l : List Value} (T : TailOk tail) (e : refsT tail l = true) : l.isEmpty = false := by
  cases l with
  | nil => exact absurd (beq_iff_eq.mp e).symm T.ne
  | cons _ _ => rfl
abbrev tailVE : List Value := [.type "ValueError", .type "Exception", .type "BaseException", .type "object"]
abbrev tailLE : List Value := [.type "LookupError", .type "Exception", .type "BaseException", .type "object"]
abbrev tailIE : List Value := [.type "IndexError", .type "LookupError", .type "Exception", .type "BaseException", .type "object"]
theorem tailVE_ok : TailOk tailVE := ⟨F.store_ValueError.passes, by decide +kernel⟩
theorem tailLE_ok : TailOk tailLE := ⟨F.store_LookupError.passes, by decide +kernel⟩
theorem tailIE_ok : TailOk tailIE := ⟨F.store_IndexError.passes, by decide +kernel⟩
section
variable {prog : Program} {w : World} {A : Around} {E : Value → Shared → Prop} {R : Result → Shared → Prop} {hp : Heap} {g : Array GenState} {d : Drawn} {t : Nat} {os : OsState}
theorem exc_osaT {K : W.Frag} {name : Str} {tk : Tok} {v : Value} {x C : Addr} {fv : Array Value} {cd : ClassData} {tail : List Value} (T : TailOk tail)
    (X : K.In hp) (hx : hp.get? x = some { cls := .ref C, data := .fields fv }) (hcd : W.clsIn K C = some cd) (hm : refsT tail cd.mro = true) (hh : cd.hasDict = true) (ha : W.findIn K (.ref C) name = some none)
    (hq : ∀ h' tk' dx, (∀ b o, b ≠ x → hp.get? b = some o → h'.get? b = some o) → hp.objs.size ≤ dx → dx ≠ x → h'.get? x = some { cls := .ref C, dict := some dx, data := .fields fv } →
      h'.Ns1 dx (fun y => if y = name then some v else none) → R (.ok (.ret .none)) ⟨h', g, d, tk', os⟩) :
    codeAny (model prog w) A (.call (.builtin "object.__setattr__") ⟨[.ref x, .str name tk, v], []⟩) R ⟨hp, g, d, t, os⟩ := by
  have I : W.InstAt hp x { cls := .ref C, data := .fields fv } C none := ⟨hx, rfl, rfl, trivial⟩
  have SF := F.store_object
  have ne := refsT_ne T hm
  have hob : cd.mro.contains (.type "object") = true := (refsT_contains T "object" _ hm).trans T.obj
  have hxs : x ≠ hp.objs.size := Nat.ne_of_lt (Heap.lt_size hx)
  have sub : W.Looks (model prog w) hp (isInstance (.ref x) (.type "object")) true := I.type.andThen (W.looks_mroIn X (by unfold W.mroIn; rw [hcd, Option.bind_some, if_neg (by rw [ne]; decide), hob]))
  refine codeAny_call_builtin SF.slot.plain SF.entry (@W.check_slot (model prog w) _ _ ⟨hp, g, d, t, os⟩ "object.__setattr__" "object" "__setattr__" (.ref x) [.str name tk, v] [] _ SF.kind SF.split sub (SF.args (.ref x) (.str name tk) v) ?_)
  have hmr : W.Looks (model prog w) hp (mroOf (.ref C)) cd.mro := (W.looks_clsIn X hcd).andThen .now
  have L3 : W.Looks (model prog w) hp (storeTaker? none) none := .now
  have hcls : W.Looks (model prog w) hp (classData C) cd := W.looks_clsIn X hcd
  rw [W.osa_eq, refuse_eq]
  refine wpAny_bind (wpAny_bind (I.type.at (wpAny_bind (hmr.at ?_))))
  rw [refsT_pass T _ _ hm]
  refine wpAny_pure (wpAny_bind (I.type.at (wpAny_bind ((W.looks_findIn X ha).at (wpAny_bind (L3.at ?_))))))
  show wpAny _ _ (storeInOwnDict (.ref x) (.ref C) (.str name tk) name v false) _ _ _
  obtain ⟨nm, bs, mro, ns, qn, hd, sn, sb, ab, col, del⟩ := cd
  dsimp only at hh
  subst hh
  unfold storeInOwnDict ownDictForStores
  repeat (first | with_reducible refine store_in_new ?_ ?_ | with_reducible refine wpAny_loadPart_at hx ?_ | with_reducible refine hcls.at ?_ | wp_step)
  · exact ⟨_, #[], _, (Heap.get?_update_ne _ _ _ _ hxs.symm).trans (Heap.get?_push_at rfl rfl), rfl, fun e he => absurd he (by simp), fun _ => rfl⟩
  · intro h' tk' hn' hs
    have hx₁ : (hp.push { cls := .type "dict", data := .dict #[] }).get? x = some { cls := .ref C, data := .fields fv } := Heap.get?_push_of_some _ hx
    refine hq h' tk' hp.objs.size (fun b o hb ho => ?_) (Nat.le_refl _) hxs.symm ?_ hn'
    · exact (hs.2 b (Nat.ne_of_lt (Heap.lt_size ho))).trans ((Heap.get?_update_ne _ _ _ _ hb).trans (Heap.get?_push_of_some _ ho))
    · exact (hs.2 x hxs).trans (Heap.get?_update_self _ hx₁ rfl)
theorem osa_oldT {K : W.Frag} {name : Str} {tk : Tok} {v : Value} {x C dx : Addr} {fv : Array Value} {cd : ClassData} {m0 : Str → Option Value} {nl : List Str} {tail : List Value} (T : TailOk tail)
    (X : K.In hp) (hx : hp.get? x = some { cls := .ref C, dict := some dx, data := .fields fv }) (hns : hp.Ns1 dx m0) (hw : Within m0 nl) (hz : nl.length ≤ 1000) (hcd : W.clsIn K C = some cd) (hm : refsT tail cd.mro = true) (hh : cd.hasDict = true)
    (ha : W.findIn K (.ref C) name = some none)
    (hq : ∀ h' tk', (∀ b o, b ≠ dx → hp.get? b = some o → h'.get? b = some o) → h'.Ns1 dx (fun y => if y = name then some v else m0 y) → R (.ok (.ret .none)) ⟨h', g, d, tk', os⟩) :
    codeAny (model prog w) A (.call (.builtin "object.__setattr__") ⟨[.ref x, .str name tk, v], []⟩) R ⟨hp, g, d, t, os⟩ := by
  obtain ⟨oD, esD, epD, hoD, hdD, _⟩ := hns.count hw
  have I : W.InstAt hp x { cls := .ref C, dict := some dx, data := .fields fv } C (some oD) := ⟨hx, rfl, rfl, hoD⟩
  have SF := F.store_object
  have ne := refsT_ne T hm
  have hob : cd.mro.contains (.type "object") = true := (refsT_contains T "object" _ hm).trans T.obj
  have sub : W.Looks (model prog w) hp (isInstance (.ref x) (.type "object")) true := I.type.andThen (W.looks_mroIn X (by unfold W.mroIn; rw [hcd, Option.bind_some, if_neg (by rw [ne]; decide), hob]))
  refine codeAny_call_builtin SF.slot.plain SF.entry (@W.check_slot (model prog w) _ _ ⟨hp, g, d, t, os⟩ "object.__setattr__" "object" "__setattr__" (.ref x) [.str name tk, v] [] _ SF.kind SF.split sub (SF.args (.ref x) (.str name tk) v) ?_)
  have hmr : W.Looks (model prog w) hp (mroOf (.ref C)) cd.mro := (W.looks_clsIn X hcd).andThen .now
  have L3 : W.Looks (model prog w) hp (storeTaker? none) none := .now
  have hcls : W.Looks (model prog w) hp (classData C) cd := W.looks_clsIn X hcd
  rw [W.osa_eq, refuse_eq]
  refine wpAny_bind (wpAny_bind (I.type.at (wpAny_bind (hmr.at ?_))))
  rw [refsT_pass T _ _ hm]
  refine wpAny_pure (wpAny_bind (I.type.at (wpAny_bind ((W.looks_findIn X ha).at (wpAny_bind (L3.at ?_))))))
  show wpAny _ _ (storeInOwnDict (.ref x) (.ref C) (.str name tk) name v false) _ _ _
  obtain ⟨nm, bs, mro, ns, qn, hd, sn, sb, ab, col, del⟩ := cd
  dsimp only at hh
  subst hh
  unfold storeInOwnDict ownDictForStores
  repeat (first | with_reducible refine PySem.OEX.store_in_old hns hw hz ?_ | with_reducible refine wpAny_loadPart_at hx ?_ | with_reducible refine hcls.at ?_ | wp_step)
  intro h' tk' hn' hs
  exact hq h' tk' (fun b o hb ho => (hs.2 b hb).trans ho) hn'
end
end XV
namespace L2
open PySem PySem.Spec PyProof.Rows XV
/-- what the written part says of an own exception class with an own __init__ -/
structure OexG (K : PySem.W.Frag) (C : Addr) : Prop where
  cls : ∃ B nid iid tail nm q N bs bm sn sub ab col dd k0 k1 k2 k3 k5, ExcBaseFacts B nid iid tail ∧ TailOk tail ∧ K.lookup C = some (excClassObj nm q C N bs bm true sn sub ab col dd k0 k1 k2 k3 k5 nid) ∧ refsT tail bm = true
  sa : PySem.W.findIn K (.ref C) "__setattr__" = some (some (.builtin "object.__setattr__"))
  exC : PySem.W.subIn K (.ref C) (.type "BaseException") = some true
  tyC : PySem.W.typeIn K (.ref C) = some (.type "type")
  kC : PySem.W.keepIn K (.ref C) = true
section
variable {X : Cx} {pins : List (Addr × Obj)} {σ : St} {H : Hp} {s : Shared} {a C dx : Addr} {f : Str} {y : V} {u : Value} {fs : List (Str × V)} {Q : Unit → Shared → Prop} {E : Value → Shared → Prop} {A : Around}
theorem ostG_new (T : OexG X.K C) (I : Inv X pins σ H s) (e : H a = some (exo a C none)) (hno : PySem.W.findIn X.K (.ref C) f = some none) (ry : RelV y u)
    (h : ∀ dx s', H dx = none → dx ≠ a → Inv X pins σ (upd (upd H dx (exd dx [(f, y)])) a (exo a C (some dx))) s' → Q () s') : wpAny (model X.prog X.w) A (setAttr (.ref a) f u) Q E s := by
  obtain ⟨B, nid, iid, tail, nm, q, N, bs, bm, sn, sub, ab, col, dd, k0, k1, k2, k3, k5, _, TO, hC, hbm⟩ := T.cls
  have hcl : PySem.W.clsIn X.K C = some { name := nm, bases := bs, mro := .ref C :: bm, ns := N, qualname := q, hasDict := true, slotNames := sn, subclasses := sub, abstract := ab, collection := col, hasDel := false } := by unfold PySem.W.clsIn; rw [hC] <;> rfl
  obtain ⟨t1, ho⟩ := exo_at I.hok e
  obtain ⟨hp, g, d, t, os⟩ := s
  refine PySem.W.set_plain I.kIn (ox := { cls := .ref C, dict := none, data := .fields #[.ref t1, .none, .none, .none, .bool false, .none] }) (od := none) ⟨ho, rfl, rfl, trivial⟩ T.sa ?_
  refine exc_osaT TO I.kIn ho hcl (show refsT tail (.ref C :: bm) = true from hbm) rfl hno (fun h' tk' dx k dn dne hx hn => ?_)
  have hnd : H dx = none := I.hok.fresh dn
  have nd : ∀ {b : Addr} {o : Obj}, hp.get? b = some o → b ≠ dx := fun {b o} q => Nat.ne_of_lt (Nat.lt_of_lt_of_le (Heap.lt_size q) dn)
  have na : ∀ {b : Addr}, H b = none → b ≠ a := fun {b} n z => by
    rw [z, e] at n
    cases n
  have Un1 : Un X.fs [] H (upd (upd H dx (exd dx [(f, y)])) a (exo a C (some dx))) hp h' := {
    keep := fun b o q n _ _ => k b o (na n) q
    slot := fun b o q n _ _ => ⟨o.slots, k b o (na n) q⟩
    free := fun b o q n _ => by rw [upd_ne (na n), upd_ne (nd q)]; exact n
    there := fun b o q _ => by
      by_cases hb : b = a
      · exact ⟨_, by rw [hb]; exact hx⟩
      · exact ⟨o, k b o hb q⟩
    tups := fun b xs q => by rw [upd_ne (at_ne e q exo_tup), upd_ne (ne_of_none q hnd)]; exact q
    frzs := fun b o v q => by rw [upd_ne (at_ne e q exo_frz), upd_ne (ne_of_none q hnd)]; exact q
    tbls := fun b ps q => ⟨#[], by rw [upd_ne (at_ne e q exo_tbl), upd_ne (ne_of_none q hnd), q]; simp⟩ }
  refine h dx _ hnd dne (I.un (t' := tk') Un1 fun b o q => ?_)
  by_cases hb : b = a
  · subst hb
    rw [upd_same] at q
    cases q
    exact exo_ok hx
  · rw [upd_ne hb] at q
    by_cases hd : b = dx
    · subst hd
      rw [upd_same] at q
      cases q
      exact exd_ok hn (relO_put (fs := []) ry fun g => True.intro)
    · rw [upd_ne hd] at q
      exact (I.hok b o q).stay (fun c v hc z => k c v (by
          rcases hc with hc | hc
          · rw [hc]
            exact hb
          · exact at_ne e hc exo_own) z)
        (fun c hc => by rw [upd_ne (at_ne e hc exo_own), upd_ne (ne_of_none hc hnd)]; exact hc) (fun c xs hc => by rw [upd_ne (at_ne e hc exo_tup), upd_ne (ne_of_none hc hnd)]; exact hc)
theorem ostG_old (T : OexG X.K C) (I : Inv X pins σ H s) (e : H a = some (exo a C (some dx))) (ed : H dx = some (exd dx fs)) (hl : fs.length ≤ 900) (hno : PySem.W.findIn X.K (.ref C) f = some none) (ry : RelV y u)
    (h : ∀ s', Inv X pins σ (upd H dx (exd dx ((f, y) :: fs))) s' → Q () s') : wpAny (model X.prog X.w) A (setAttr (.ref a) f u) Q E s := by
  obtain ⟨B, nid, iid, tail, nm, q, N, bs, bm, sn, sub, ab, col, dd, k0, k1, k2, k3, k5, _, TO, hC, hbm⟩ := T.cls
  have hcl : PySem.W.clsIn X.K C = some { name := nm, bases := bs, mro := .ref C :: bm, ns := N, qualname := q, hasDict := true, slotNames := sn, subclasses := sub, abstract := ab, collection := col, hasDel := false } := by unfold PySem.W.clsIn; rw [hC] <;> rfl
  obtain ⟨t1, ho⟩ := exo_at I.hok e
  obtain ⟨mA, hns, rel⟩ := exd_at I.hok ed
  have hw := within_of rel
  obtain ⟨hp, g, d, t, os⟩ := s
  obtain ⟨oD, _, _, hoD, _, _⟩ := hns.count hw
  refine PySem.W.set_plain I.kIn (ox := { cls := .ref C, dict := some dx, data := .fields #[.ref t1, .none, .none, .none, .bool false, .none] }) (od := some oD) ⟨ho, rfl, rfl, hoD⟩ T.sa ?_
  refine osa_oldT TO I.kIn ho hns hw (by rw [List.length_map]; omega) hcl (show refsT tail (.ref C :: bm) = true from hbm) rfl hno (fun h' tk' k hn => ?_)
  have hd : ∃ o, h'.get? dx = some o := by
    obtain ⟨o, _, _, e', _⟩ := hn
    exact ⟨o, e'⟩
  exact h _ (I.write (t' := tk') (x := dx) (e := dx) (o := exd dx ((f, y) :: fs)) (by rw [ed]; exact True.intro) (.inl rfl) k hd (exd_ok hn (relO_put ry rel)))
end
/-- self.f = e -/
def tOstG (K : PySem.W.Frag) (f : Str) (to te : TE) : TS := fun D σ H => te σ H fun y H1 => to σ H1 fun x H2 => ∃ a C : Addr, x = .ref a ∧ OexG K C ∧ PySem.W.findIn K (.ref C) f = some none ∧
  ((H2 a = some (exo a C none) ∧ ∀ dx, H2 dx = none → dx ≠ a → D.nx σ (upd (upd H2 dx (exd dx [(f, y)])) a (exo a C (some dx)))) ∨
    ∃ (dx : Addr) (fs : List (Str × V)), H2 a = some (exo a C (some dx)) ∧ H2 dx = some (exd dx fs) ∧ fs.length ≤ 900 ∧ D.nx σ (upd H2 dx (exd dx ((f, y) :: fs))))
/-- e.f -/
def tXo (K : PySem.W.Frag) (f : Str) (te : TE) : TE := fun σ H Q => te σ H fun x H1 => ∃ (a C dx : Addr) (fs : List (Str × V)) (v : V), x = .ref a ∧ H1 a = some (exo a C (some dx)) ∧ H1 dx = some (exd dx fs) ∧ XfC K C ∧ PySem.W.findIn K (.ref C) f = some none ∧ fs.lookup f = some v ∧ Q v H1
/-- C(..), its own __init__ walked -/
def tMkG (C : Addr) (n : Nat) (sp : Sp) (gV : List V → List V → List V) (ta tk : TA) : TE := fun σ H Q => ta σ H fun vs H1 => tk σ H1 fun zs H2 => vs.length = n ∧ zs.length ≤ 1000 ∧ vs.length ≤ 1000 ∧ ∀ a, H2 a = none → sp (gV (.ref a :: vs) zs) (upd H2 a (exo a C none)) (fun v H3 => v = .non ∧ Q (.ref a) H3) E0
section
variable {X : Cx} {o e : Expr} {es : List Expr} {to te : TE} {ta : TA} {f : Str} {p p' p1 p2 pos : Pos}
theorem ps_ostG (ho : PE X o to) (he : PE X e te) (hs : swapsWith e (some (.Attribute o f p')) pos.line X.env = pure false := by rfl) : PS X (.Assign [.Attribute o f p'] e pos) (tOstG X.K f to te) := by
  refine ⟨fun pins s σ H D I h => ?_⟩
  refine plainObj_wpAny_Assign_Attribute (thn (he.run pins s σ H _ I h) fun v s1 ⟨y, H1, I1, r1, q1⟩ => thn (ho.run pins s1 σ H1 _ I1 q1) fun u s2 ⟨x, H2, I2, r2, a, C, ex, T, hno, q⟩ => ?_) hs
  subst ex
  obtain rfl : u = Value.ref a := r2
  rcases q with ⟨ea, q⟩ | ⟨dx, fs, ea, ed, hl, q⟩
  · exact ostG_new T I2 ea hno r1 fun dx s' n ne J => ⟨σ, _, J, q dx n ne⟩
  · exact ostG_old T I2 ea ed hl hno r1 fun s' J => ⟨σ, _, J, q⟩
theorem pe_xo (he : PE X e te) (hb : attributeBase e f X.env (eval e X.env) = eval e X.env := by rfl) : PE X (.Attribute e f pos) (tXo X.K f te) := by
  refine ⟨fun pins s σ H Q I h => ?_⟩
  refine attr_of hb (thn (he.run pins s σ H _ I h) fun u s1 hh => ?_)
  obtain ⟨x, H1, I1, rx, a, C, dx, fs, v, ex, ea, ed, T, hno, l, q⟩ := hh
  subst ex
  obtain rfl : u = Value.ref a := rx
  obtain ⟨t1, ho⟩ := exo_at I1.hok ea
  obtain ⟨mA, hns, hr⟩ := exd_at I1.hok ed
  obtain ⟨od, hod, hl⟩ := lookIn_ns hns
  obtain ⟨u, hu, ru⟩ := RelO.some_of (v := v) (o := mA f) (by rw [← l]; exact hr f)
  have J : PySem.W.InstAt s1.heap a ({ cls := .ref C, dict := some dx, data := .fields #[.ref t1, .none, .none, .none, .bool false, .none] } : Obj) C (some od) := ⟨ho, rfl, rfl, hod⟩
  exact HandSPX.exc_get I1.kIn J T.ga T.gg T.exC (PySem.W.findObj_own T.hdC hno rfl (by rw [hl, hu])) (handed_of ru) ⟨v, H1, I1.tok _, ru, q⟩
end
/-- the class of an own exception, so that isinstance asks its instances rightly -/
structure XisC (K : PySem.W.Frag) (D : Addr) : Prop where
  hc : (PySem.W.clsIn K D).isSome = true
  hg : PySem.W.findIn K (.ref D) "__getattribute__" = some (some (.builtin "BaseException.__getattribute__"))
  hk : PySem.W.findIn K (.ref D) "__getattr__" = some none
  hs : PySem.W.subIn K (.ref D) (.type "BaseException") = some true
  ha : PySem.W.findIn K (.ref D) "__class__" = some (some (.builtin "object.__class__"))
  hn : PySem.W.specialIn K (.builtin "object.__class__") "__get__" = some (some (.builtin "getset_descriptor.__get__"))
  ht : PySem.W.takesIn K (.builtin "object.__class__") = some true
  hm : PySem.W.mroIn K D (.type "object") = some true
/-- isinstance(e, c), e an own exception -/
def rIsX (K : PySem.W.Frag) : List V → Hp → VK → Prop := fun xs H Q => ∃ (a D dx : Addr) (fs : List (Str × V)) (c : V) (u : Value) (b : Bool), xs = [.ref a, c] ∧ ClsV c u ∧ H a = some (exo a D (some dx)) ∧ H dx = some (exd dx fs) ∧ XisC K D ∧ PySem.W.kitOne K (.ref D) u = some b ∧ Q (.bl b) H
theorem call_isX {X : Cx} : CallR X (.builtin "isinstance") (rIsX X.K) := by
  intro pins s σ H xs us Q I r h
  obtain ⟨a, D, dx, fs, c, u, b, rfl, k, ea, ed, C, e, q⟩ := h
  obtain ⟨u1, u2, rfl, r1, r2⟩ := vals2 r
  have e2 := k.eq r2
  subst e2
  obtain rfl : u1 = Value.ref a := r1
  obtain ⟨t1, ho⟩ := exo_at I.hok ea
  obtain ⟨mA, hns, _⟩ := exd_at I.hok ed
  obtain ⟨od, hod, _⟩ := lookIn_ns hns
  have J : PySem.W.InstAt s.heap a ({ cls := .ref D, dict := some dx, data := .fields #[.ref t1, .none, .none, .none, .bool false, .none] } : Obj) D (some od) := ⟨ho, rfl, rfl, hod⟩
  exact PySem.W.kia_one (PySem.W.kitx_exc C.hc C.hg C.hk C.hs C.ha C.hn C.ht C.hm) I.kIn J e (fun z => nomatch z) fun tk => ⟨.bl b, H, I.tok tk, rfl, q⟩
end L2
namespace PySem
namespace XVK
open HandSPX Builtin Builtin.ObjectAttr
section
variable {M : Model} {A : Around} {E : Value → Shared → Prop} {h : Heap} {g : Array GenState} {d : Drawn} {t : Nat} {os : OsState}
variable {nm q : Str} {C N : Addr} {bs bm bmB : List Value} {hdct : Bool} {sn : List Str} {sub : List Value} {ab : Bool} {col : Option Bool} {dd : Option Addr} {k0 k1 k2 k3 k5 : Option Value} {B newId initId : String}
theorem check_type_call_subK {M : Model} {rest : List Value} {kw : List (Str × Value)} {Q : Unit → Shared → Prop} (hC : h.get? C = some (excClassObj nm q C N bs bm hdct sn sub ab col dd k0 k1 k2 k3 k5 newId))
    (hq : Q () ⟨h, g, d, t, os⟩) : wpAny M A (checkBuiltinCall "type.__call__" ⟨.ref C :: rest, kw⟩) Q E ⟨h, g, d, t, os⟩ := by
  have f3 := tc_sub
  have hT : (⟨h, g, d, t, os⟩ : Shared).TypeIs (.ref C) "type" := ⟨_, hC, rfl⟩
  simp only [checkBuiltinCall, tc_kind, tc_split]
  repeat (any_goals (first | assumption | with_reducible refine wpAny_loadPart_at hC ?_ | with_reducible refine wpAny_onRaise ?_ | with_reducible refine wpAny_map ?_ | wp_step))
theorem check_new_ownK (F : ExcBaseFacts B newId initId bmB) (hT : ∀ X : String, bm.contains (.type X) = bmB.contains (.type X)) {rest : List Value} {kw : List (Str × Value)} {Q : Unit → Shared → Prop}
    (hC : h.get? C = some (excClassObj nm q C N bs bm hdct sn sub ab col dd k0 k1 k2 k3 k5 newId)) (hq : Q () ⟨h, g, d, t, os⟩) : wpAny M A (checkBuiltinCall newId ⟨.ref C :: rest, kw⟩) Q E ⟨h, g, d, t, os⟩ := by
  have hcont : (Value.ref C :: bm).contains (.type B) = true := by rw [List.contains_cons, hT, F.hasB, Bool.or_true]
  have hstar := F.noStar
  simp only [checkBuiltinCall, F.newKind, F.newSplit, F.newRow]
  repeat (first | refine wpAny_loadPart_at hC ?_ | (refine wpAny_isSubtype_exc hC ?_; rw [hcont]) | refine wpAny_staticBase_exc hC ?_ | refine wpAny_madeBy_exc hC ?_ | simp only [bne_self_eq_false, Bool.false_eq_true, if_false] | wp_step)
  exact hq
end
section
variable {prog : Program} {w : World} {A : Around} {E : Value → Shared → Prop} {R : Result → Shared → Prop} {h : Heap} {g : Array GenState} {d : Drawn} {t : Nat} {os : OsState}
variable {nm q : Str} {C N : Addr} {bs bm bmB : List Value} {hdct : Bool} {sn : List Str} {sub : List Value} {ab : Bool} {col : Option Bool} {dd : Option Addr} {k0 k1 k2 k3 k5 : Option Value} {B newId initId : String}
theorem new_ownK (F : ExcBaseFacts B newId initId bmB) (hT : ∀ X : String, bm.contains (.type X) = bmB.contains (.type X)) {rest : List Value} {kw : List (Str × Value)}
    (hC : h.get? C = some (excClassObj nm q C N bs bm hdct sn sub ab col dd k0 k1 k2 k3 k5 newId))
    (hq : R (.ok (.ret (.ref (h.objs.size + 1)))) ⟨(h.push { cls := .type "tuple", data := .seq rest.toArray }).push
      { cls := .ref C, data := .fields #[.ref h.objs.size, .none, .none, .none, .bool false, .none] }, g, d, t, os⟩) (hrest : rest.length ≤ sizeLine) :
    codeAny (model prog w) A (.builtin newId ⟨.ref C :: rest, kw⟩) R ⟨h, g, d, t, os⟩ := by
  have hends := F.ends
  have hcB : (Value.ref C :: bm).contains (.type B) = true := by rw [List.contains_cons, hT, F.hasB, Bool.or_true]
  have hcA : (Value.ref C :: bm).contains (.type "AttributeError") = false := by rw [List.contains_cons, hT, F.noAttr]; rfl
  have hcN : (Value.ref C :: bm).contains (.type "NameError") = false := by rw [List.contains_cons, hT, F.noName]; rfl
  refine codeAny_builtinAt F.entry ?_
  unfold Builtin.«BaseException.__new__»
  refine wpAt_bind ?_
  show wpAt _ _ _ (stack >>= _) _ _ _
  refine wpAt_bind (wpAt_stack fun p below => wpAt_of_wpAny ?_)
  wp_walk
  refine wpAt_of_wpAny ?_
  rw [F.owner]
  repeat (first | with_reducible refine wpAny_madeHere_exc F.canon hC ?_ | with_reducible refine wpAny_loadPart_at hC ?_ | (with_reducible refine wpAny_isSubtype_exc hC ?_; first | rw [hcB] | rw [hcA] | rw [hcN]) | wp_step)
  show R _ _
  rw [Heap.size_push]
  exact hq

theorem type_call_ownK (F : ExcBaseFacts B newId initId bmB) (hT : ∀ X : String, bm.contains (.type X) = bmB.contains (.type X)) {rest : List Value} {kw : List (Str × Value)} {fI : Addr} {Q : Fin → Shared → Prop}
    (hC : h.get? C = some (excClassObj nm q C N bs bm hdct sn sub ab col dd k0 k1 k2 k3 k5 newId))
    (hi : W.Looks (model prog w) h (typeLookup (.ref C) "__init__") (some (.ref fI))) (hb : ∀ self, W.Looks (model prog w) h (bindSpecial (.ref fI) self) (.ref fI, [self])) (hrest : rest.length ≤ sizeLine)
    (hq : codeAny (model prog w) A (.call (.ref fI) ⟨.ref (h.objs.size + 1) :: rest, kw⟩)
      (fun r s' => match r with | .ok (.ret v) => v = .none ∧ Q (.done (.ret (.ref (h.objs.size + 1)))) s' | .ok _ => False | .error e => E e s')
      ⟨(h.push (W.kdv_tup rest)).push (excO C h.objs.size), g, d, t, os⟩) :
    wpAny (model prog w) A (Builtin.«type.__call__» ⟨.ref C :: rest, kw⟩) Q E ⟨h, g, d, t, os⟩ := by
  repeat (first | with_reducible refine wpAny_loadPart_at hC ?_ | with_reducible refine wpAny_madeBy_exc hC ?_ | wp_step)
  refine codeAny_call_builtin_code (Code.quiet_builtin _ F.quiet) (check_new_ownK F hT hC ?_)
  refine new_ownK F hT hC ?_ hrest
  show wpAny _ _ _ _ _ _
  have k : ∀ b o, h.get? b = some o → ((h.push (W.kdv_tup rest)).push (excO C h.objs.size)).get? b = some o := fun b o e => Heap.get?_push_of_some _ (Heap.get?_push_of_some _ e)
  have hC₁ := k _ _ hC
  have hget : ((h.push (W.kdv_tup rest)).push (excO C h.objs.size)).get? (h.objs.size + 1) = some (excO C h.objs.size) := by heap_get
  have hcC : (Value.ref C :: bm).contains (.ref C) = true := by simp
  have i1 := hi.keeps k
  have b1 := (hb (.ref (h.objs.size + 1))).keeps k
  unfold isInstance
  repeat (first | with_reducible refine wpAny_loadPart_at hget ?_ | (with_reducible refine wpAny_isSubtype_exc hC₁ ?_; rw [hcC]) | wp_step)
  show wpAny _ _ (typeLookup (.ref C) _) _ _ _
  refine i1.at ?_
  refine wpAny_holding (wpAny_bind (b1.at ?_))
  refine wpAny_bind (wpAny_call (codeAny_mono hq fun r s' z => ?_))
  rcases r with e | (v | _ | _ | _) <;> first | exact z | exact z.elim | skip
  obtain ⟨rfl, z⟩ := z
  first
    | exact wpAny_pure (wpAny_pure z)
    | (wp_walk; exact z)

theorem call_ownK (F : ExcBaseFacts B newId initId bmB) (hT : ∀ X : String, bm.contains (.type X) = bmB.contains (.type X)) {rest : List Value} {kw : List (Str × Value)} {fI : Addr}
    (hC : h.get? C = some (excClassObj nm q C N bs bm hdct sn sub ab col dd k0 k1 k2 k3 k5 newId))
    (hi : W.Looks (model prog w) h (typeLookup (.ref C) "__init__") (some (.ref fI))) (hb : ∀ self, W.Looks (model prog w) h (bindSpecial (.ref fI) self) (.ref fI, [self])) (hrest : rest.length ≤ sizeLine)
    (hq : codeAny (model prog w) (A.under (.builtin "type.__call__" ⟨.ref C :: rest, kw⟩)) (.call (.ref fI) ⟨.ref (h.objs.size + 1) :: rest, kw⟩) (W.InitBack (h.objs.size + 1) R)
      ⟨(h.push (W.kdv_tup rest)).push (excO C h.objs.size), g, d, t, os⟩) :
    codeAny (model prog w) A (.call (.ref C) ⟨rest, kw⟩) R ⟨h, g, d, t, os⟩ := by
  have f1 := tc_lookup
  have f2 := tc_bind (.ref C)
  have hTy : (⟨h, g, d, t, os⟩ : Shared).TypeIs (.ref C) "type" := ⟨_, hC, rfl⟩
  refine codeAny_of_tree ?_
  show wpAny _ _ (callAny (.ref C) _) _ _ _
  repeat (any_goals (first | assumption | with_reducible refine wpAny_loadPart_at hC ?_ | wp_step))
  refine ⟨rfl, ?_⟩
  refine codeAny_call_builtin_at (Code.quiet_builtin _ (by decide +kernel)) entry_typeCall (check_type_call_subK hC (type_call_ownK F hT hC hi hb hrest ?_))
  refine codeAny_mono hq fun r s' z => ?_
  rcases r with e | (v | _ | _ | _) <;> exact z

end
end XVK
end PySem
namespace L2
open PySem PySem.Spec PyProof.Rows XV
/-- C(..), its own __init__ walked -/
def tMkN (C : Addr) (n m : Nat) (sp : Sp) (gV : List V → List V → List V) (ta tk : TA) : TE := fun σ H Q => ta σ H fun vs H1 => tk σ H1 fun zs H2 => vs.length = n ∧ zs.length = m ∧ n ≤ 1000 ∧ ∀ a, H2 a = none → sp (gV (.ref a :: vs) zs) (upd H2 a (exo a C none)) (fun v H3 => v = .non ∧ Q (.ref a) H3) E0
section
variable {X : Cx} {C fI : Addr} {k n : Nat} {fd : FuncData} {ps ks : List Str} {sp : Sp} {g : List Value → List Value → List Value} {gV : List V → List V → List V}
theorem run_mkG {pins : List (Addr × Obj)} {σ : St} {H : Hp} {s : Shared} {Q : VK} {us ws : List Value} {vs zs : List V} (T : OexG X.K C) (iC : PySem.W.findIn X.K (.ref C) "__init__" = some (some (.ref fI))) (tI : PySem.W.typeIn X.K (.ref fI) = some (.type "function"))
    (F1 : FnOk X.prog X.w X.K X.mg X.base CX0 k fI fd ps sp) (hr : Room (k + 1) X.A) (hb : KBn X.K fd ps (n + 1) ks g gV) (I : Inv X pins σ H s) (r : Vals vs us) (rz : Vals zs ws) (l1 : vs.length = n) (l2 : zs.length = ks.length) (hn : n ≤ 1000)
    (h : ∀ a, H a = none → sp (gV (.ref a :: vs) zs) (upd H a (exo a C none)) (fun v H3 => v = .non ∧ Q (.ref a) H3) E0) : wpAny (model X.prog X.w) X.A (call (.ref C) us (ks.zip ws)) (EP X pins σ Q) X.xe s := by
  obtain ⟨B, nid, iid, tail, nm, q, N, bs, bm, sn, sub, ab, col, dd, k0, k1, k2, k3, k5, FB, TO, hC, hbm⟩ := T.cls
  obtain ⟨hp, gg, dr, tk, os⟩ := s
  have hsz : hp.objs.size ≤ hp.objs.size + 1 := Nat.le_succ _
  have hn0 : H (hp.objs.size + 1) = none := I.hok.fresh hsz
  have hq := h (hp.objs.size + 1) hn0
  have kk : ∀ b o, hp.get? b = some o → ((hp.push (PySem.W.kdv_tup us)).push (PySem.HandSPX.excO C hp.objs.size)).get? b = some o := fun b o e => Heap.get?_push_of_some _ (Heap.get?_push_of_some _ e)
  have hget : ((hp.push (PySem.W.kdv_tup us)).push (PySem.HandSPX.excO C hp.objs.size)).get? (hp.objs.size + 1) = some (PySem.HandSPX.excO C hp.objs.size) := by heap_get
  have I2 : Inv X pins σ (upd H (hp.objs.size + 1) (exo (hp.objs.size + 1) C none)) ⟨(hp.push (PySem.W.kdv_tup us)).push (PySem.HandSPX.excO C hp.objs.size), gg, dr, tk, os⟩ :=
    I.laid (t' := tk) (a := hp.objs.size + 1) (o := exo (hp.objs.size + 1) C none) (h' := (hp.push (PySem.W.kdv_tup us)).push (PySem.HandSPX.excO C hp.objs.size)) kk hsz (exo_ok hget)
  have r1 : Vals (V.ref (hp.objs.size + 1) :: vs) (Value.ref (hp.objs.size + 1) :: us) := .cons rfl r
  have r2 := hb.rel r1 rz
  have e1 : (Value.ref (hp.objs.size + 1) :: us).length = n + 1 := r1.length.symm.trans (congrArg Nat.succ l1)
  have e2 : ws.length = ks.length := rz.length.symm.trans l2
  have hus : us.length ≤ sizeLine := by
    rw [← Paired.length r, l1, sizeLine_eq]
    omega
  refine wpAny_call (PySem.XVK.call_ownK FB (fun Y => refsT_contains TO Y bm hbm) (I.kIn _ _ hC) (PySem.W.looks_findIn I.kIn iC) (fun self => PySem.W.bind_fn I.kIn self tI) hus
    (codeAny_mono (F1.run _ X.stack _ _ ⟨Value.ref (hp.objs.size + 1) :: us, ks.zip ws⟩ (g (Value.ref (hp.objs.size + 1) :: us) ws) _ _ E0 (hr.make C us (ks.zip ws)) (I2.env0.make C us (ks.zip ws)) (hb.to _ (Value.ref (hp.objs.size + 1) :: us) ws I2.kIn e1 e2) r2 hq) fun r s' hq' => ?_))
  cases r with
  | error er => exact pass0 pins σ _ _ er s' I2 hq'
  | ok fl =>
    cases fl with
    | ret u =>
      obtain ⟨v, H', I3, rv, ev, q3⟩ := I2.after hq'
      subst ev
      exact ⟨rv, ⟨V.ref (hp.objs.size + 1), H', I3, rfl, q3⟩⟩
    | next => exact False.elim hq'
    | brk => exact False.elim hq'
    | cont => exact False.elim hq'
/-- a class to be made: where it stands, its __init__ -/
structure Xm (P : Program) (w : World) (K : PySem.W.Frag) (mg : Str → Option Value) (base : Heap) (C : Addr) (k : Nat) (fI : Addr) (fd : FuncData) (x : Str) (ps : List Str) (sp : Sp) : Prop where
  T : OexG K C
  iC : PySem.W.findIn K (.ref C) "__init__" = some (some (.ref fI))
  tI : PySem.W.typeIn K (.ref fI) = some (.type "function")
  ok : FnOk P w K mg base CX0 k fI fd ps sp
  m : mg x = some (.ref C)
theorem pe_mkG {x : Str} {e : Expr} {es : List Expr} {ta : TA} {p pos : Pos} (M : Xm X.prog X.w X.K X.mg X.base C k fI fd x ps sp) (hr : Room (k + 1) X.A) (hg : Gl X x) (hb : KBn X.K fd ps (n + 1) [] g gV) (ha : PA X (e :: es) ta)
    (hdb : (x == ("__debug__" : Str)) = false := by decide) (he : starEach (e :: es) X.env = (false, eval e X.env) :: starEach es X.env := by rfl) (hpl : (backTo pos (starEach es X.env)).any (·.1) = false := by rfl) :
    PE X (.Call (.Name x p) (e :: es) [] pos) (tMkN C n 0 sp gV ta tNil) := by
  refine ⟨fun pins s σ H Q I h => ?_⟩
  refine wpAny_Call_Name_kw (ld_glob I hg M.m ?_ hdb)
  refine PySem.W.callWith_K (h₀ := X.base) I.ok.mod.kin M.T.kC (thn (ha.run pos pins s σ H _ I h) fun us s1 ⟨vs, H1, I1, r, q⟩ => ⟨I1.kIn, ?_⟩) he hpl
  obtain ⟨l1, l2, l3, q⟩ := q
  exact run_mkG (us := us) (ws := []) (vs := vs) (zs := []) M.T M.iC M.tI M.ok hr hb I1 r .nil l1 rfl l3 q
theorem pe_mkG0 {x : Str} {p pos : Pos} (M : Xm X.prog X.w X.K X.mg X.base C k fI fd x ps sp) (hr : Room (k + 1) X.A) (hg : Gl X x) (hb : KBn X.K fd ps 1 [] g gV) (hdb : (x == ("__debug__" : Str)) = false := by decide) :
    PE X (.Call (.Name x p) [] [] pos) (tMkN C 0 0 sp gV tNil tNil) := by
  refine ⟨fun pins s σ H Q I h => ?_⟩
  refine wpAny_Call_Name_kw (ld_glob I hg M.m ?_ hdb)
  obtain ⟨l1, l2, l3, q⟩ := h
  exact PySem.W.callWith_K0 I.kIn M.T.kC (run_mkG (us := []) (ws := []) (vs := []) (zs := []) M.T M.iC M.tI M.ok hr hb I .nil .nil rfl rfl l3 q)
theorem pe_mkGK {x : Str} {kws : List Keyword} {tk : TA} {p pos : Pos} (M : Xm X.prog X.w X.K X.mg X.base C k fI fd x ps sp) (hr : Room (k + 1) X.A) (hg : Gl X x) (hb : KBn X.K fd ps 1 ks g gV) (hkw : PK X kws tk)
    (hall : (backToKw pos (keywordEach kws X.env)).all (·.1.isSome) = true := by rfl) (hks : (backToKw pos (keywordEach kws X.env)).filterMap (·.1) = ks := by rfl) (hdb : (x == ("__debug__" : Str)) = false := by decide)
    (hpl : ((backTo pos (starEach [] X.env)).any (·.1) || (backToKw pos (keywordEach kws X.env)).any (·.1.isNone)) = false := by rfl) :
    PE X (.Call (.Name x p) [] kws pos) (tMkN C 0 ks.length sp gV tNil tk) := by
  refine ⟨fun pins s σ H Q I h => ?_⟩
  refine wpAny_Call_Name_kw (ld_glob I hg M.m ?_ hdb)
  refine PySem.W.callWith_KW0 (h₀ := X.base) I.ok.mod.kin M.T.kC hall ?_ hpl
  refine thn (hkw.run pos pins s σ H _ I h) fun ws s2 ⟨zs, H2, I2, rz, l1, l2, l3, q⟩ => ⟨I2.kIn, ?_⟩
  rw [hks]
  exact run_mkG (us := []) (ws := ws) (vs := []) (zs := zs) M.T M.iC M.tI M.ok hr hb I2 .nil rz rfl l2 l3 q
end
end L2
/-! ### own exceptions raised and caught: a tuple of classes with a name, the caught one handed to a def -/
namespace ExR
open PySem PySem.Spec PyProof.Rows L2
section
variable {X : Cx}
/-- raise of an expression that makes an own exception (with its dict) -/
theorem pmk_exo {e : Expr} {te : TE} (hx : X.ex = []) (he : PE X e te) :
    PMk X e (fun σ H Q => te σ H fun x H1 => ∃ a C d, x = .ref a ∧ H1 a = some (exo a C (some d)) ∧ Fr0 X.H_0 a ∧ Raises X (.ref C) ∧ Q (.ref C) (some d) (delH H1 a)) := by
  intro pins s σ H Q I h
  refine wpAny_mono (he.run pins s σ H _ I h) (fun u s1 hu => ?_) fun _ _ x => x
  obtain ⟨v, H1, I1, r1, a, C, d, rfl, ha, h0, hr, q⟩ := hu
  cases r1
  obtain ⟨t1, ho⟩ := exo_at I1.hok ha
  obtain ⟨G, gs, ga, J⟩ := I1.untrack ha h0 hx
  exact ⟨a, _, _, { s1 with heap := G }, delH H1 a, .ref C, some d, rfl, J, gs, ga, ho, ⟨rfl, rfl⟩, rfl, rfl, delH_same, rfl, I1.bare, hr, q⟩
end
/-! a def that is handed the caught exception -/
structure FnE (P : Program) (w : World) (K : PySem.W.Frag) (mg : Str → Option Value) (base : Heap) (CX : CXT) (k : Nat) (f : Addr) (fd : FuncData) (ps : List Str) (sp : Addr → Value → Option Addr → Sp) : Prop where
  len : ∀ a cls d vs H Q E, sp a cls d vs H Q E → vs.length = ps.length
  run : ∀ (A : Around) (outer : List Env) (s : Shared) (H : Hp) (args : Args) (us : List Value) (vs : List V) (Q : VK) (E : XK) (p : Addr × Obj) (cls : Value) (d : Option Addr), L2H.RoomH k A → Zc cls d p.2 → (∃ fs, p.2.data = .fields fs) → L2H.PinOk outer H s p → Env0 P w K mg base A outer s H → BindsTo s fd args (ps.zip us) → Vals vs us → sp p.1 cls d vs H Q E →
    codeAny (model P w) A (.call (.ref f) args) (CR CX outer P w H s Q E) s
theorem fn_ofE {CX : CXT} {P : Program} {w : World} {K : PySem.W.Frag} {mg : Str → Option Value} {base : Heap} {k : Nat} {f : Addr} {name qual : Str} {params : Arguments} {body : List Stmt} {scope : Scope} {dV kV doc pm cdv ct oc : Value} {an od : Option Addr}
    {osl : Array (Option Value)} {N ps : List Str} {sp : Addr → Value → Option Addr → Sp} (lk : K.lookup f = some ⟨oc, od, .func (PySem.W.fnOf name qual params body scope dV kV doc pm an cdv ct), osl⟩) (hcd : PySem.W.codeIn K cdv qual = true) (S : FnScope N ps scope)
    (len : ∀ a cls d vs H Q E, sp a cls d vs H Q E → vs.length = ps.length)
    (hbody : ∀ (A : Around) (outer : List Env) (s : Shared) (H : Hp) (vs : List V) (Q : VK) (E : XK) (p : Addr × Obj) (cls : Value) (d : Option Addr), Zc cls d p.2 → (∃ fs, p.2.data = .fields fs) → L2H.RoomH k (A.deeper (envOfC qual scope s.heap.objs.size f cdv)) → sp p.1 cls d vs H Q E →
      ∃ t, PSs (L2H.cxH CX P w K mg base N qual scope f cdv A outer s H E p) body t ∧ t { nx := fun _ H' => Q .non H', rt := Q } (L2.start N vs) H) :
    FnE P w K mg base CX (k + 1) f (PySem.W.fnOf name qual params body scope dV kV doc pm an cdv ct) ps sp := by
  refine ⟨len, fun A outer s H args us vs Q E p cls d hr hz hfd hpin e0 hb r hsp => ?_⟩
  have hl := len _ _ _ _ _ _ _ hsp
  have KX : K.In s.heap := e0.mod.kin.keeps fun b o e => (e0.bs b o e).1
  have lim : s.heap.NoLimit := e0.mod.nolimit.keeps fun b o e => (e0.bs b o e).1
  have hkind : ∀ y ∈ ps.zip us, scope.names.lookup y.1 = some .local ∨ (scope.names.lookup y.1 = some .cell ∧ ((cellsFrom (s.heap.objs.size + 1) scope.names []).lookup y.1).isSome = true) := fun ⟨n, v⟩ hy => by
    rcases S.par n (List.of_mem_zip hy).1 with q | q
    · exact .inl q
    · exact .inr ⟨q, PySem.W.cellsFrom_some _ _ _ (.inl q)⟩
  refine codeAny_call_function hr.depth (KX _ _ lk) rfl S.co S.gen rfl (PySem.W.codeRec_of KX hcd) (hb _ _ _ _ ?_)
  refine wpAny_newFunctionEnv_cells S.kind hkind fun env he s1 x => ?_
  subst he
  refine ⟨lim.keeps x.toInCall.keep, codeAny_func ?_⟩
  obtain ⟨t, ht, hq⟩ := hbody A outer s H vs Q E p cls d hz hfd (hr.deeper _) hsp
  have I : Inv (L2H.cxH CX P w K mg base N qual scope f cdv A outer s H E p) [] (L2.start N vs) H s1 := L2H.inv_startH S hpin e0 hl r x
  refine wpAny_mono (ht.run [] s1 (L2.start N vs) H _ I hq) (fun fl s' hs => ?_) fun e s' hs => hs
  have fin : ∀ {σ' : L2.St} {H' : Hp} {v : V} {u : Value}, Inv (L2H.cxH CX P w K mg base N qual scope f cdv A outer s H E p) [] σ' H' s' → RelV v u → Q v H' → CE outer P w H s Q u s' :=
    fun {σ' H' v u} J rv q => ⟨v, H', J.os, J.bare, J.base, J.hok, rv, q⟩
  cases fl with
  | ret u =>
    obtain ⟨v, σ', H', J, rv, q⟩ := hs
    exact fin J rv q
  | next =>
    obtain ⟨σ', H', J, q⟩ := hs
    exact fin (v := V.non) (u := Value.none) J rfl q
  | brk =>
    obtain ⟨_, _, _, q⟩ := hs
    exact False.elim q
  | cont =>
    obtain ⟨_, _, _, q⟩ := hs
    exact False.elim q
/-- the context bears the caught exception p -/
structure Bears (X : Cx) (p : Addr × Obj) (cls : Value) (d : Option Addr) : Prop where
  pn : p ∈ X.pn
  z : Zc cls d p.2
  fs : ∃ fs, p.2.data = .fields fs
section
variable {X : Cx} {CX : CXT} {k : Nat} {f C : Addr} {fd : FuncData} {ps : List Str} {sp : Addr → Value → Option Addr → Sp} {E : XK} {x : Str} {q pos apos : Pos} {e : Expr} {es : List Expr} {ta : TE} {t : TA} {p : Addr × Obj} {cls : Value} {d : Option Addr}
/-- f(e, ..) beside a caught exception -/
theorem pe_callE (F : FnE X.prog X.w X.K X.mg X.base CX k f fd ps sp) (hr : L2H.RoomH k X.A) (B : Bears X p cls d) (hg : Gl X x) (hm : X.mg x = some (.ref f)) (hk : PySem.W.keepIn X.K (.ref f) = true) (hb : Binds X.K fd ps []) (hx : Passes CX X E)
    (ha : PA X (e :: es) t) (hdb : (x == ("__debug__" : Str)) = false := by decide) (he : starEach (e :: es) X.env = (false, eval e X.env) :: starEach es X.env := by rfl) (hpl : (backTo pos (starEach es X.env)).any (·.1) = false := by rfl) :
    PE X (.Call (.Name x q) (e :: es) [] pos) (fun σ H Q => t σ H fun vs H1 => sp p.1 cls d vs H1 Q E) := by
  refine ⟨fun pins s σ H Q I h => ?_⟩
  refine wpAny_Call_Name_kw (ld_glob I hg hm ?_ hdb)
  refine PySem.W.callWith_K (h₀ := X.base) I.ok.mod.kin hk (thn (ha.run pos pins s σ H _ I h) fun us s1 ⟨vs, H1, I1, r, q⟩ => ⟨I1.kIn, ?_⟩) he hpl
  have hl : us.length = ps.length := by rw [← r.length]; exact F.len _ _ _ _ _ _ _ q
  have b := hb s1 us I1.kIn (by rw [List.append_nil]; exact hl)
  rw [List.append_nil] at b
  have P1 := I1.pin p (List.mem_append_left _ B.pn)
  have hpin : L2H.PinOk X.stack H1 s1 p := ⟨P1.1, P1.2.1, fun hm => (List.mem_cons.mp (I1.stkSub p.1 hm)).elim P1.2.2.1 P1.2.2.2.1, P1.2.2.2.2⟩
  refine wpAny_call (codeAny_mono (F.run X.A X.stack s1 H1 ⟨us, []⟩ us vs Q E p cls d hr B.z B.fs hpin I1.env0 b r q) fun r s' hq => ?_)
  cases r with
  | error e => exact hx pins σ H1 s1 e s' I1 hq
  | ok fl =>
    cases fl with
    | ret u => exact I1.after hq
    | next => exact False.elim hq
    | brk => exact False.elim hq
    | cont => exact False.elim hq
/-- e.f, e the caught exception -/
def tXe (K : PySem.W.Frag) (a : Addr) (cls : Value) (d : Option Addr) (f : Str) (te : TE) : TE := fun σ H Q => te σ H fun x H1 => ∃ (C dd : Addr) (fs : List (Str × V)) (v : V), x = .ref a ∧ cls = .ref C ∧ XfC K C ∧ PySem.W.findIn K (.ref C) f = some none ∧ d = some dd ∧ H1 dd = some (exd dd fs) ∧ fs.lookup f = some v ∧ Q v H1
theorem pe_xe {n : Str} {te : TE} (B : Bears X p cls d) (he : PE X e te) (hb : attributeBase e n X.env (eval e X.env) = eval e X.env := by rfl) : PE X (.Attribute e n pos) (tXe X.K p.1 cls d n te) := by
  refine ⟨fun pins s σ H Q I h => ?_⟩
  refine attr_of hb (thn (he.run pins s σ H _ I h) fun u s1 hh => ?_)
  obtain ⟨x, H1, I1, rx, C, dd, fs, v, ex, ec, T, hno, ed, ea, l, q⟩ := hh
  subst ex
  obtain rfl : u = Value.ref p.1 := rx
  obtain ⟨ha, _⟩ := I1.pin p (List.mem_append_left _ B.pn)
  obtain ⟨vs, hd⟩ := B.fs
  obtain ⟨mA, hns, hr⟩ := exd_at I1.hok ea
  obtain ⟨od, ho, hl⟩ := lookIn_ns hns
  obtain ⟨u, hu, ru⟩ := RelO.some_of (v := v) (o := mA n) (by rw [← l]; exact hr n)
  have J : PySem.W.InstAt s1.heap p.1 p.2 C (some od) := ⟨ha, by rw [B.z.1, ec], by unfold PySem.W.notCls; rw [hd] <;> rfl, by rw [B.z.2, ed]; exact ho⟩
  exact HandSPX.exc_get I1.kIn J T.ga T.gg T.exC (PySem.W.findObj_own T.hdC hno rfl (by rw [hl, hu])) (handed_of ru) ⟨v, H1, I1.tok _, ru, q⟩
end
/-! except (A, B, C) as e -/
def wAs3 (K : PySem.W.Frag) (cs : List Value) (i : Nat) (ts : Addr → Value → Option Addr → TS) (Wout : WX) (D : Ends) : WX := fun cls d σ H =>
  ∃ b, PySem.W.exmAny K cls cs = some b ∧ (b = true → ∀ a, H a = none → ts a cls d { nx := fun σ' H' => D.nx (σ'.set i none) H', rt := D.rt, bk := fun σ' H' => D.bk (σ'.set i none) H', ct := fun σ' H' => D.ct (σ'.set i none) H' } (σ.set i (some (.ref a))) H) ∧
    (b = false → Wout cls d σ H)
theorem flying_push {B h : Heap} {l : List Env} {a : Addr} {Z : Obj → Prop} (f : HandSPX.FlyingZ B l a Z h) (o : Obj) : HandSPX.FlyingZ B l a Z (h.push o) := by
  obtain ⟨k1, k2, k3, oe, vs, T, oT, ts, he, hz, hd, h1, hb, ht, hT, hdT, h3⟩ := f
  exact ⟨fun b o' e => Heap.get?_push_of_some _ (k1 b o' e), k2, k3.of_keeps fun b o' e _ => ⟨o', Heap.get?_push_of_some _ e, rfl⟩, oe, vs, T, oT, ts, Heap.get?_push_of_some _ he, hz, hd, h1, hb, ht, Heap.get?_push_of_some _ hT, hdT, h3⟩
section
variable {X : Cx} {x1 x2 x3 n : Str} {c1 c2 c3 : Value} {i : Nat} {body suite : List Stmt} {b₀ : Stmt} {p1 p2 p3 tpos pos pos' : Pos} {kk : Nat} {tb : WX → TS} {ts : Addr → Value → Option Addr → TS} {Wout : WX}
theorem ps_try_as3 (hs : X.stack = X.env :: X.outer) (hf : X.env.frame = some X.env.locals) (hN : X.N.Nodup) (hi : X.N[i]? = some n) (hln : X.env.kindOf n = some .local) (hc1 : Names X x1 c1) (hc2 : Names X x2 c2) (hc3 : Names X x3 c3) (tk : Takes X Wout)
    (hb : ∀ (W : WX) (pn : List (Addr × Obj)) (xe : Value → Shared → Prop), Takes (X.tr pn xe) W → PassesOwn (model X.prog X.w) X.A X.env xe → PSs (X.tr pn xe) body (tb W))
    (hsu : ∀ (a : Addr) (oe : Obj) (cls : Value) (d : Option Addr) (pn : List (Addr × Obj)), Zc cls d oe → (∃ vs, oe.data = .fields vs) → PSs (X.suite a ((a, oe) :: pn)) (b₀ :: suite) (ts a cls d)) :
    PS X (.Try body [.ExceptHandler (some (.Tuple [.Name x1 p1, .Name x2 p2, .Name x3 p3] kk tpos)) (some n) (b₀ :: suite) pos'] [] [] pos) (fun D σ H => tb (wAs3 X.K [c1, c2, c3] i ts Wout D) D σ H) := by
  refine ⟨fun pins s σ H D I h => ?_⟩
  have ok := I.ok
  have hfr : X.A.frames = some (X.env :: X.outer) := by rw [ok.frames, hs]
  have hloc : Loc X.env.scope n := .inl hln
  refine wpAny_Try_except ?_
  refine wpAny_mono ((hb (wAs3 X.K [c1, c2, c3] i ts Wout D) (X.pn ++ pins) (fun e s₁ => wpAny (model X.prog X.w) X.A (noteFrame e X.env) (fun _ s₂ => wpAny (model X.prog X.w) X.A (setFlight e none) (fun _ s₃ =>
    wpAny (model X.prog X.w) X.A (handleBy e X.env [.ExceptHandler (some (.Tuple [.Name x1 p1, .Name x2 p2, .Name x3 p3] kk tpos)) (some n) (b₀ :: suite) pos']) (SP X pins D) X.xe s₃) X.xe s₂) X.xe s₁) (fun u s' xx => ?_) PassesOwn.looking).run [] s σ H D (I.toTry _) h) (fun f s1 hsp => ?_) (fun e s1 he => he)
  · -- the catch
    obtain ⟨a, B, sI, pins', σ', H', cls, d, rfl, J', nb, up, sky, na, os, ag, b, hb1, hyes, hno⟩ := xx
    have J : Inv X pins σ' H' sI := J'.ofTry ok
    have sky' : Sky B (X.env :: X.outer) a (Zc cls d) X.env.locals s'.heap := by rw [← hs]; exact sky
    show wpAny (model X.prog X.w) X.A (noteFrame (.ref a) X.env) _ _ _
    refine Sky.land Zc.steady hfr hf sky' fun h2 fl2 up2 => ?_
    have J2 : Inv X pins σ' H' { s' with heap := h2 } := J.landed nb fl2.1 (up.trans up2) os ag
    obtain ⟨oe2, vs2, he2, hz2, hd2⟩ := fl2.there
    have notFr : ∀ {h : Heap} {o : Obj} {vs : Array Value}, h.FunFrames B (X.env :: X.outer) → h.get? a = some o → o.data = .fields vs → a ∉ frs (X.env :: X.outer) := fun {h o vs} ff e dd hm => by
      obtain ⟨_, o', e', hnf⟩ := ff.mem hm
      rw [e] at e'; cases e'
      exact hnf _ dd
    have nfr := notFr fl2.2.2.1 he2 hd2
    have nL : a ≠ X.env.locals := fun z => nfr (List.mem_filterMap.mpr ⟨X.env, List.mem_cons_self, by rw [hf, z]⟩)
    have nF : a ∉ X.fs := fun hm => by
      obtain ⟨e, he, q⟩ := List.mem_filterMap.mp hm
      exact nfr (List.mem_filterMap.mpr ⟨e, List.mem_cons_of_mem _ he, q⟩)
    have S2 := J2.suite he2 hd2 na nL nF
    refine wpAny_handleBy_cons (codeAny_handlers_test ?_) (by intro q; cases q)
    have test : ∀ {x : Str} {c : Value} {np : Pos} {Q : Value → Shared → Prop} {E : Value → Shared → Prop}, Names X x c → Q c { s' with heap := h2 } → wpAny (model X.prog X.w) (X.A.mark (some (.ref a))) (eval (.Name x np) X.env) Q E { s' with heap := h2 } := fun {x c np Q E} hc q => by
      obtain ⟨hg, hdbg, hm | ⟨hm, hv, hnn⟩⟩ := hc
      · exact ld_glob (X := X.suite a ((a, oe2) :: (X.pn ++ pins))) S2 hg hm q hdbg
      · exact ld_blt (X := X.suite a ((a, oe2) :: (X.pn ++ pins))) S2 hg hm hv q hnn hdbg
    refine wpAny_Tuple ?_
    refine wpAny_items_cons (test hc1 ?_)
    refine wpAny_items_cons (test hc2 ?_)
    refine wpAny_items_cons (test hc3 ?_)
    refine wpAny_items_nil ⟨by size_fits, ?_⟩
    generalize hh3 : h2.push { cls := .type "tuple", data := .seq [c1, c2, c3].toArray } = h3
    have fl3 : HandSPX.FlyingZ B (X.env :: X.outer) a (Zc cls d) h3 := by rw [← hh3]; exact flying_push fl2 _
    have upp : h2.UpToSlots h3 := by rw [← hh3]; exact Heap.UpToSlots.of_keeps fun _ _ z => Heap.get?_push_of_some _ z
    have up3 : s'.heap.UpToSlots h3 := up2.trans upp
    have J3 : Inv X pins σ' H' { s' with heap := h3 } := J.landed nb fl3.1 (up.trans up3) os ag
    obtain ⟨oe3, vs3, he3, hz3, hd3⟩ := fl3.there
    have LT : PySem.W.Looks (model X.prog X.w) h3 (typeOf (.ref a)) cls := fun A Q E s k q => wpAny_typeOf_ref (k _ _ he3) (by rw [hz3.1]; exact q)
    have hp : h3.get? h2.objs.size = some { cls := .type "tuple", data := .seq [c1, c2, c3].toArray } := by rw [← hh3]; exact Heap.get?_push_size h2 rfl
    have LM := PySem.W.exm_tup3 (M := model X.prog X.w) (J3.kIn) LT hp hb1
    show wpAny (model X.prog X.w) (X.A.mark (some (.ref a))) (excMatches (.ref a) (.ref h2.objs.size)) _ _ { s' with heap := h3 }
    refine LM.here ?_
    cases b with
    | true =>
      refine codeAny_handlers_suite_as ?_
      refine HandSPX.lands_againZ fl3 fun h4 fl4 up4 => ?_
      have J4 : Inv X pins σ' H' { s' with heap := h4 } := J.landed nb fl4.1 ((up.trans up3).trans up4) os ag
      obtain ⟨oe4, vs4, he4, hz4, hd4⟩ := fl4.there
      have S4 := J4.suite he4 hd4 na nL nF
      refine store_ok (X := X.suite a ((a, oe4) :: (X.pn ++ pins))) (v := .ref a) S4 hN hi hloc rfl (fun s5 S5 => ?_) (.inr hln)
      refine wpAny_mono ((hsu a oe4 cls d (X.pn ++ pins) hz4 ⟨_, hd4⟩).run [] s5 _ H' _ S5 (hyes rfl a na)) (fun f s6 hsp => ?_) (fun _ _ z => False.elim z)
      have end_ : ∀ {σ6 : L2.St} {H6 : Hp} {Q : Shared → Prop}, Inv (X.suite a ((a, oe4) :: (X.pn ++ pins))) [] σ6 H6 s6 → (∀ s7, Inv X pins (σ6.set i none) H6 s7 → Q s7) →
          wpAny (model X.prog X.w) X.A (do bindName X.env n .none; unbindBehindTheSuite X.env n pos') (fun _ s7 => Q s7) X.xe s6 := fun {σ6 H6 Q} S6 hq => gone_ok (S6.unsuite ok) hN hi hln hq
      cases f with
      | next =>
        obtain ⟨σ6, H6, S6, q6⟩ := hsp
        exact end_ S6 fun s7 J7 => ⟨_, _, J7, q6⟩
      | brk =>
        obtain ⟨σ6, H6, S6, q6⟩ := hsp
        exact end_ S6 fun s7 J7 => ⟨_, _, J7, q6⟩
      | cont =>
        obtain ⟨σ6, H6, S6, q6⟩ := hsp
        exact end_ S6 fun s7 J7 => ⟨_, _, J7, q6⟩
      | ret u =>
        obtain ⟨v6, σ6, H6, S6, r6, q6⟩ := hsp
        exact end_ S6 fun s7 J7 => ⟨_, _, _, J7, r6, q6⟩
    | false =>
      show wpAny _ X.A (handleBy (.ref a) X.env []) _ _ _
      refine wpAny_handleBy_nil ?_
      obtain ⟨k1, k2, k3, oe, vs, T, oT, ts', he, hz, hd, h1, hr⟩ := id fl3
      unfold PySem.passOn
      refine wpAny_bind (wpAny_field he hd h1 ?_)
      rw [if_neg (show ¬ ((Value.ref T == Value.none) = true) from by simp)]
      have fin : wpAny (model X.prog X.w) X.A (setFlight (.ref a) X.env.frame) (fun _ s4 => wpAny (model X.prog X.w) X.A (throw (.ref a) : Sem Flow) (SP X pins D) X.xe s4) X.xe { s' with heap := h3 } := by
        rw [hf]
        refine HandSPX.setFlight_upZ fl3 fun h4 hh4 up4 => wpAny_throw (tk _ _ ?_)
        exact ⟨a, B, sI, pins, σ', H', cls, d, rfl, J, nb, (up.trans up3).trans up4, .inr (.inr (by rw [hs]; exact hh4)), na, os, ag, hno rfl⟩
      first
        | exact wpAny_bind (wpAny_pure (wpAny_bind fin))
        | exact wpAny_bind fin
  · cases f with
    | next =>
      obtain ⟨σ', H', J', q⟩ := hsp
      exact wpAny_execs_nil ⟨σ', H', J'.ofTry ok, q⟩
    | brk =>
      obtain ⟨σ', H', J', q⟩ := hsp
      exact ⟨σ', H', J'.ofTry ok, q⟩
    | cont =>
      obtain ⟨σ', H', J', q⟩ := hsp
      exact ⟨σ', H', J'.ofTry ok, q⟩
    | ret u =>
      obtain ⟨v, σ', H', J', r, q⟩ := hsp
      exact ⟨v, σ', H', J'.ofTry ok, r, q⟩
end
end ExR
namespace Un
open PySem L2 TL
def top (i : Nat) : Stmt := PySem.Challenge.pw_unopened_k10_wrong_texts.main.body.getD i (.Pass ⟨0, 0, 0, 0⟩)
abbrev sBag : Stmt := top 62
abbrev sPull : Stmt := top 63
abbrev sAny : Stmt := top 64
/-! the law's drawing: a bag at b, its cells at c -/
structure BagIs (H : Hp) (b c : Addr) (ns : List Int) (p r s k : Int) : Prop where
  lb : H b = some (.lst [.ref c, .int p, .int r, .int s, .int k])
  lc : H c = some (.lst (ns.map V.int))
  nl : ns.length ≤ 63
  p0 : 0 ≤ p
  s0 : 0 ≤ s
  s1 : s < 2147483648
  r0 : 0 ≤ r
def Bag (H : Hp) (b c : Addr) : Prop := ∃ ns p r s k, BagIs H b c ns p r s k
/-- what was tracked is as it was, the bag aside -/
def Kp (b : Addr) (H H' : Hp) : Prop := ∀ a o, H a = some o → a ≠ b → H' a = some o
theorem Kp.refl (b : Addr) (H : Hp) : Kp b H H := fun _ _ h _ => h
theorem Kp.trans {b : Addr} {H H1 H2 : Hp} (x : Kp b H H1) (y : Kp b H1 H2) : Kp b H H2 := fun a o h n => y a o (x a o h n) n
theorem Same.kp {b : Addr} {H H' : Hp} (x : Same H H') : Kp b H H' := fun a o h _ => x a o h
theorem same_upd {H : Hp} {p : Addr} (h : H p = none) (o : HO) : Same H (upd H p o) := fun b u q => by rw [upd_ne (ne_of_none q h)]; exact q
theorem Bag.ne {H : Hp} {b c : Addr} (B : Bag H b c) : b ≠ c := by
  obtain ⟨ns, p, r, s, k, B⟩ := B
  intro e
  have h1 := B.lb
  rw [e, B.lc] at h1
  cases ns with
  | nil => cases h1
  | cons x t => 
    have := Option.some.inj h1
    cases this
theorem Bag.same {H H' : Hp} {b c : Addr} (B : Bag H b c) (x : Same H H') : Bag H' b c := by
  obtain ⟨ns, p, r, s, k, B⟩ := B
  exact ⟨ns, p, r, s, k, x _ _ B.lb, x _ _ B.lc, B.nl, B.p0, B.s0, B.s1, B.r0⟩
theorem Bag.upd_new {H : Hp} {b c q : Addr} (B : Bag H b c) (h : H q = none) (o : HO) : Bag (upd H q o) b c := B.same (same_upd h o)
theorem Bag.there {H : Hp} {b c : Addr} (B : Bag H b c) : ∃ o, H b = some o := by
  obtain ⟨ns, p, r, s, k, B⟩ := B
  exact ⟨_, B.lb⟩
theorem Bag.fresh {H : Hp} {b c q : Addr} (B : Bag H b c) (h : H q = none) : q ≠ b := by
  obtain ⟨o, e⟩ := B.there
  exact (ne_of_none e h).symm
/-- the bag's list is written -/
theorem BagIs.put {H : Hp} {b c : Addr} {ns : List Int} {p r s k p' r' s' k' : Int} (B : BagIs H b c ns p r s k) (h0 : 0 ≤ p') (h1 : 0 ≤ s') (h2 : s' < 2147483648) (h3 : 0 ≤ r') :
    BagIs (upd H b (.lst [.ref c, .int p', .int r', .int s', .int k'])) b c ns p' r' s' k' := by
  have n : b ≠ c := Bag.ne ⟨ns, p, r, s, k, B⟩
  exact ⟨upd_same, by rw [upd_ne n.symm]; exact B.lc, B.nl, h0, h1, h2, h3⟩
def spPull : Sp := fun vs H Q _ => ∃ (b c : Addr) (many : Int), vs = [.ref b, .int many] ∧ Bag H b c ∧ 0 < many ∧ many < 1073741824 ∧
  ∀ (d : Int) (H' : Hp), 0 ≤ d → d < many → Bag H' b c → Kp b H H' → Q (.int d) H'
section
variable {P : Program} {w : World} {K : PySem.W.Frag} {mg : Str → Option Value} {base : Heap}
theorem scPull : FnScope ["_law_bag_here", "_law_many", "_law_cell", "_law_digit", "_law_seed"] ["_law_bag_here", "_law_many"] (defScope sPull) := ⟨rfl, rfl, rfl, by decide +kernel, rfl, by decide +kernel, by decide +kernel⟩
theorem ok_pull {f : Addr} {fd : FuncData} (F : Fun K "_law_pull" "_law_pull" sPull f fd) (mlen : mg "len" = none) (mint : mg "int" = none) : FnOk P w K mg base CX0 1 f fd ["_law_bag_here", "_law_many"] spPull := by
  refine F.ok scPull (fun vs H Q E h => ?_) (fun cdv A outer s H vs Q E hr h => ?_)
  · obtain ⟨b, c, many, rfl, _⟩ := h
    rfl
  obtain ⟨b, c, many, rfl, ⟨ns, p, r, s, k, B⟩, m0, m1, q⟩ := h
  refine ⟨_, C8.pss_cut (ps_if (PW.pt (pw_and (pt_cmpR op_eq (pe_ix ix_list (pv 0) pe_int (fun _ _ => rfl)) pe_int (nomark _)) (pw_and1 (pt_cmpR op_lt (pe_ix ix_list (pv 0) pe_int (fun _ _ => rfl)) (pe_callB call_len_seq (by rfl) mlen PySem.boot_len (pa_cons (pe_ix ix_list (pv 0) pe_int (fun _ _ => rfl)) pa_nil)) (nomark _)))))
      (pss_cons (ps_set (i := 2) scPull.nd rfl (Or.inl rfl) (pe_ix ix_list (pe_ix ix_list (pv 0) pe_int (fun _ _ => rfl)) (pe_ix ix_list (pv 0) pe_int (fun _ _ => rfl)) (fun _ _ => rfl)))
      (pss_cons (ps_asg (pe_op op_add (pe_ix ix_list (pv 0) pe_int (fun _ _ => rfl)) pe_int) (pg_sub (pv 0) pe_int set_list))
      (pss_one (ps_if (pt_cmpR op_ge (pv 2) (pe_op op_pow pe_int pe_int) (nomark _))
        (pss_one (ps_asg (pv 2) (pg_sub (pv 0) pe_int set_list)))
        (pss_one (ps_asg (pe_op op_mod (pe_callTy call_int1 (by rfl) mint (by decide +kernel) (pa_cons (pe_op op_add (pe_op op_add (pe_op op_mul (pe_ix ix_list (pv 0) pe_int (fun _ _ => rfl)) pe_int) (pe_op op_mul (pe_op op_mod (pe_callTy call_int1 (by rfl) mint (by decide +kernel) (pa_cons (pv 2) pa_nil)) pe_int) pe_int)) pe_int) pa_nil)) pe_int) (pg_sub (pv 0) pe_int set_list)))))))
      pss_nil)
    (pss_cons (ps_if (pt_cmpR op_gt (pe_ix ix_list (pv 0) pe_int (fun _ _ => rfl)) pe_int (nomark _))
      (pss_cons (ps_set (i := 3) scPull.nd rfl (Or.inl rfl) (pe_op op_mod (pe_callTy call_int1 (by rfl) mint (by decide +kernel) (pa_cons (pe_ix ix_list (pv 0) pe_int (fun _ _ => rfl)) pa_nil)) (pv 1)))
      (pss_cons (ps_asg (pe_op op_fdiv (pe_ix ix_list (pv 0) pe_int (fun _ _ => rfl)) (pv 1)) (pg_sub (pv 0) pe_int set_list))
      (pss_one (ps_ret (pv 3)))))
      pss_nil)
    (pss_cons (ps_asg (pe_op op_add (pe_ix ix_list (pv 0) pe_int (fun _ _ => rfl)) pe_int) (pg_sub (pv 0) pe_int set_list))
    (pss_cons (ps_set (i := 4) scPull.nd rfl (Or.inl rfl) (pe_ix ix_list (pv 0) pe_int (fun _ _ => rfl)))
    (pss_cons (ps_asg (pe_op op_mod (pe_callTy call_int1 (by rfl) mint (by decide +kernel) (pa_cons (pe_op op_add (pe_op op_add (pe_op op_add (pe_op op_mul (pe_op op_mul (pv 4) (pv 4)) pe_int) (pe_op op_mul (pv 4) pe_int)) (pe_op op_mul (pe_ix ix_list (pv 0) pe_int (fun _ _ => rfl)) pe_int)) pe_int) pa_nil)) pe_int) (pg_sub (pv 0) pe_int set_list))
    (pss_one (ps_ret (pe_op op_mod (pe_callTy call_int1 (by rfl) mint (by decide +kernel) (pa_cons (pe_op op_add (pe_op op_fdiv (pe_ix ix_list (pv 0) pe_int (fun _ _ => rfl)) pe_int) (pe_op op_mul (pe_op op_mod (pe_callTy call_int1 (by rfl) mint (by decide +kernel) (pa_cons (pe_ix ix_list (pv 0) pe_int (fun _ _ => rfl)) pa_nil)) pe_int) pe_int)) pa_nil)) (pv 1)))))))), ?_⟩
  have r0 : SqL K H b [.ref c, .int p, .int r, .int s, .int k] := SqL.of B.lb
  have rc : SqL K H c (ns.map V.int) := SqL.of B.lc
  refine ⟨fun σ' H2 => ∃ p r s k v2, σ' = [some (.ref b), some (.int many), v2, none, none] ∧ BagIs H2 b c ns p r s k ∧ Kp b H H2, ?_, ?_⟩
  · -- if bag[2] == 0 and bag[1] < len(bag[0])
    refine ⟨.ref b, rfl, b, _, 2, .int r, rfl, rfl, r0, rfl, rfl, _, rfl, ?_⟩
    refine ite2 (fun _ => ?_) (fun _ => ?_)
    case refine_2 => exact iteF ⟨p, r, s, k, none, rfl, B, Kp.refl b H⟩
    refine ⟨.ref b, rfl, b, _, 1, .int p, rfl, rfl, r0, rfl, .ref b, rfl, b, _, 0, .ref c, rfl, rfl, r0, rfl, c, _, rfl, .inl rc, p, _, rfl, rfl, _, rfl, ?_⟩
    refine ite2 (fun hp => ?_) (fun _ => ?_)
    case refine_2 => exact ⟨p, r, s, k, none, rfl, B, Kp.refl b H⟩
    have hp' : p < ((ns.map V.int).length : Int) := of_decide_eq_true hp
    rw [List.length_map] at hp'
    have hpn : p.toNat < ns.length := by have := B.p0; omega
    have hcell : atI (ns.map V.int) p = some (.int ns[p.toNat]) := by
      have e : p = ((p.toNat : Nat) : Int) := by have := B.p0; omega
      have q : atI (ns.map V.int) ((p.toNat : Nat) : Int) = some (.int ns[p.toNat]) := atI_nat (by rw [List.getElem?_map, List.getElem?_eq_getElem hpn] <;> rfl)
      rw [← e] at q
      exact q
    -- cell = bag[0][bag[1]]; bag[1] = bag[1] + 1
    refine ⟨.ref b, rfl, b, _, 0, .ref c, rfl, rfl, r0, rfl, .ref b, rfl, b, _, 1, .int p, rfl, rfl, r0, rfl, c, _, p, _, rfl, rfl, rc, hcell, ?_⟩
    refine ⟨.ref b, rfl, b, _, 1, .int p, rfl, rfl, r0, rfl, p, 1, rfl, rfl, .ref b, rfl, b, _, 1, 1, rfl, rfl, B.lb, rfl, ?_⟩
    have B1 : BagIs (upd H b (.lst [.ref c, .int (p + 1), .int r, .int s, .int k])) b c ns (p + 1) r s k := B.put (by have := B.p0; omega) B.s0 B.s1 B.r0
    have k1 : Kp b H (upd H b (.lst [.ref c, .int (p + 1), .int r, .int s, .int k])) := fun a o e n => by rw [upd_ne n]; exact e
    -- if cell >= 10 ** 18
    refine ⟨_, rfl, 10, 18, rfl, rfl, ⟨by decide, by decide, by decide⟩, _, _, rfl, rfl, _, rfl, ?_⟩
    refine ite2 (fun hg => ?_) (fun _ => ?_)
    · have hg' : ns[p.toNat] ≥ (10 : Int) ^ (18 : Int).toNat := of_decide_eq_true hg
      have hg0 : 0 ≤ ns[p.toNat] := Int.le_trans (by decide) hg'
      refine ⟨_, rfl, .ref b, rfl, b, _, 2, 2, rfl, rfl, B1.lb, rfl, ?_⟩
      have e1 : upd (upd H b (.lst [.ref c, .int (p + 1), .int r, .int s, .int k])) b (.lst [.ref c, .int (p + 1), .int ns[p.toNat], .int s, .int k]) = upd H b (.lst [.ref c, .int (p + 1), .int ns[p.toNat], .int s, .int k]) := upd_upd
      refine ⟨p + 1, ns[p.toNat], s, k, _, rfl, ?_, ?_⟩
      · exact B1.put B1.p0 B.s0 B.s1 hg0
      · exact k1.trans fun a o e n => by rw [upd_ne n]; exact e
    · refine ⟨.ref b, rfl, b, _, 3, .int s, rfl, rfl, SqL.of B1.lb, rfl, s, 48623, rfl, rfl, .inr ⟨by decide, by decide⟩, ?_⟩
      refine ⟨_, rfl, .inl ⟨_, rfl, ?_⟩⟩
      refine ⟨_, 2147483399, rfl, rfl, (by show (0 : Int) < 2147483399; decide), ?_⟩
      refine ⟨_, 15017, rfl, rfl, .inr ⟨by decide, by decide⟩, ?_⟩
      refine ⟨_, _, rfl, rfl, _, 31, rfl, rfl, .inl ⟨_, rfl, ?_⟩⟩
      refine ⟨_, 2147483563, rfl, rfl, (by show (0 : Int) < 2147483563; decide), ?_⟩
      refine ⟨.ref b, rfl, b, _, 3, 3, rfl, rfl, B1.lb, rfl, ?_⟩
      refine ⟨p + 1, r, _, k, _, rfl, B1.put B1.p0 ?_ ?_ B.r0, k1.trans fun a o e n => by rw [upd_ne n]; exact e⟩
      · exact Int.emod_nonneg _ (by decide)
      · exact Int.lt_trans (Int.emod_lt_of_pos _ (by decide)) (by decide)
  · rintro σ' H2 ⟨p, r, s, k, v2, rfl, B, kp⟩
    have r0 : SqL K H2 b [.ref c, .int p, .int r, .int s, .int k] := SqL.of B.lb
    -- if bag[2] > 0
    refine ⟨.ref b, rfl, b, _, 2, .int r, rfl, rfl, r0, rfl, _, _, rfl, rfl, _, rfl, ?_⟩
    refine ite2 (fun _ => ?_) (fun _ => ?_)
    · refine ⟨.ref b, rfl, b, _, 2, .int r, rfl, rfl, r0, rfl, .inl ⟨_, rfl, ?_⟩⟩
      refine ⟨_, rfl, _, _, rfl, rfl, m0, ?_⟩
      refine ⟨.ref b, rfl, b, _, 2, .int r, rfl, rfl, r0, rfl, _, rfl, _, _, rfl, rfl, ⟨m0, m1⟩, ?_⟩
      refine ⟨.ref b, rfl, b, _, 2, 2, rfl, rfl, B.lb, rfl, ?_⟩
      refine ⟨_, rfl, ?_⟩
      exact q _ _ (Int.emod_nonneg _ (by omega)) (Int.emod_lt_of_pos _ m0) ⟨ns, p, _, s, k, B.put B.p0 B.s0 B.s1 (Int.ediv_nonneg B.r0 (by omega))⟩ (kp.trans fun a o e n => by rw [upd_ne n]; exact e)
    · -- bag[4] = bag[4] + 1; seed = bag[3]
      refine ⟨.ref b, rfl, b, _, 4, .int k, rfl, rfl, r0, rfl, k, 1, rfl, rfl, .ref b, rfl, b, _, 4, 4, rfl, rfl, B.lb, rfl, ?_⟩
      have B1 : BagIs (upd H2 b (.lst [.ref c, .int p, .int r, .int s, .int (k + 1)])) b c ns p r s (k + 1) := B.put B.p0 B.s0 B.s1 B.r0
      have k1 : Kp b H (upd H2 b (.lst [.ref c, .int p, .int r, .int s, .int (k + 1)])) := kp.trans fun a o e n => by rw [upd_ne n]; exact e
      refine ⟨.ref b, rfl, b, _, 3, .int s, rfl, rfl, SqL.of B1.lb, rfl, ?_⟩
      have hs0 := B.s0
      have hs1 := B.s1
      refine ⟨_, rfl, _, rfl, _, _, rfl, rfl, .inl ⟨by omega, by omega⟩, _, 7, rfl, rfl, .inr ⟨by decide, by decide⟩, ?_⟩
      refine ⟨_, rfl, _, 31159, rfl, rfl, .inr ⟨by decide, by decide⟩, _, _, rfl, rfl, ?_⟩
      refine ⟨.ref b, rfl, b, _, 4, .int (k + 1), rfl, rfl, SqL.of B1.lb, rfl, _, 1299841, rfl, rfl, .inr ⟨by decide, by decide⟩, _, _, rfl, rfl, ?_⟩
      refine ⟨_, 70003, rfl, rfl, .inl ⟨_, rfl, ?_⟩⟩
      refine ⟨_, 2147483543, rfl, rfl, (by show (0 : Int) < 2147483543; decide), ?_⟩
      refine ⟨.ref b, rfl, b, _, 3, 3, rfl, rfl, B1.lb, rfl, ?_⟩
      have B2 := B1.put (p' := p) (r' := r) (k' := k + 1) B.p0 (Int.emod_nonneg (s * s * 7 + s * 31159 + (k + 1) * 1299841 + 70003) (show (2147483543 : Int) ≠ 0 by decide)) (Int.lt_trans (Int.emod_lt_of_pos _ (by decide)) (by decide)) B.r0
      refine ⟨.ref b, rfl, b, _, 3, _, rfl, rfl, SqL.of B2.lb, rfl, _, 73, rfl, rfl, ⟨by decide, by decide⟩, ?_⟩
      refine ⟨.ref b, rfl, b, _, 3, _, rfl, rfl, SqL.of B2.lb, rfl, .inl ⟨_, rfl, ?_⟩⟩
      refine ⟨_, 7919, rfl, rfl, (by show (0 : Int) < 7919; decide), _, 59, rfl, rfl, .inr ⟨by decide, by decide⟩, ?_⟩
      refine ⟨_, _, rfl, rfl, .inl ⟨_, rfl, ?_⟩⟩
      refine ⟨_, rfl, _, _, rfl, rfl, m0, ?_⟩
      exact q _ _ (Int.emod_nonneg _ (by omega)) (Int.emod_lt_of_pos _ m0) ⟨ns, p, _, _, _, B2⟩ (k1.trans fun a o e n => by rw [upd_ne n]; exact e)

/-! the bag is made -/
theorem cut_ints (ns : List Int) (lo hi : Option Int) : ∃ ms : List Int, cutV (ns.map V.int) lo hi = ms.map V.int ∧ ms.length ≤ ns.length := by
  refine ⟨(ns.drop (HT.sIx ns.length 0 lo)).take (HT.sIx ns.length ns.length hi - HT.sIx ns.length 0 lo), ?_, ?_⟩
  · unfold cutV
    rw [List.length_map, List.map_take, List.map_drop]
  · rw [List.length_take, List.length_drop]
    omega
def spBag (K : PySem.W.Frag) : Sp := fun vs H Q _ => ∃ (a : Addr) (ns : List Int), vs = [.ref a] ∧ SqL K H a (ns.map V.int) ∧ ns.length ≤ 63 ∧
  ∀ (b c : Addr) (H' : Hp), Same H H' → H b = none → H c = none → Bag H' b c → Q (.ref b) H'
theorem scBag : FnScope ["_law_script"] ["_law_script"] (defScope sBag) := ⟨rfl, rfl, rfl, by decide +kernel, rfl, by decide +kernel, by decide +kernel⟩
theorem ok_bag {f : Addr} {fd : FuncData} (F : Fun K "_law_bag" "_law_bag" sBag f fd) (mlen : mg "len" = none) (mlist : mg "list" = none) : FnOk P w K mg base CX0 1 f fd ["_law_script"] (spBag K) := by
  refine F.ok scBag (fun vs H Q E h => ?_) (fun cdv A outer s H vs Q E hr h => ?_)
  · obtain ⟨a, ns, rfl, _⟩ := h
    rfl
  obtain ⟨a, ns, rfl, hS, h63, q⟩ := h
  refine ⟨_, pss_one (ps_ret (pe_lst (pa_cons (pe_callTy call_list_of (by rfl) mlist (by decide +kernel) (pa_cons (pe_slice sl_list (pv 0) po_none (po_some pe_int)) pa_nil)) (pa_cons pe_int (pa_cons pe_int (pa_cons (pe_op op_add pe_int (pe_callB call_len_seq (by rfl) mlen PySem.boot_len (pa_cons (pv 0) pa_nil))) (pa_cons pe_int pa_nil))))))), ?_⟩
  obtain ⟨ms, em, hm⟩ := cut_ints ns none (some 63)
  refine ⟨_, rfl, 63, rfl, a, _, rfl, hS, fun x hx => ?_⟩
  rw [em]
  have s1 := same_upd hx (.lst (ms.map V.int))
  refine ⟨x, _, rfl, .inl (SqL.of upd_same), fun y hy => ?_⟩
  have s2 := s1.trans (same_upd hy (.lst (ms.map V.int)))
  refine ⟨_, rfl, a, _, rfl, .inl (s2.seq hS), _, _, rfl, rfl, (by show 5 ≤ sizeLine; decide), fun b hb => ?_⟩
  have hb0 : H b = none := s2.free hb
  have hyb : y ≠ b := fun e => by
    rw [← e, upd_same] at hb
    cases hb
  refine q b y _ (s2.trans (same_upd hb _)) hb0 (s1.free hy) ⟨ms, 0, 0, _, 0, upd_same, ?_, by omega, by decide, ?_, ?_, by decide⟩
  · rw [upd_ne hyb, upd_same]
  · show (0 : Int) ≤ 12002 + ((ns.map V.int).length : Int)
    omega
  · show 12002 + ((ns.map V.int).length : Int) < 2147483648
    rw [List.length_map]
    omega
/-! one of several things -/
theorem Kp.seqL {b : Addr} {H H' : Hp} (x : Kp b H H') {a : Addr} {xs : List V} (n : a ≠ b) (h : SqL K H a xs) : SqL K H' a xs := by
  rcases h with (h | ⟨o, h⟩) | h
  · exact .inl (.inl (x _ _ h n))
  · exact .inl (.inr ⟨o, x _ _ h n⟩)
  · exact .inr h
theorem Kp.seqT {b : Addr} {H H' : Hp} (x : Kp b H H') {a : Addr} {xs : List V} (n : a ≠ b) (h : SqT K H a xs) : SqT K H' a xs := by
  rcases h with (h | ⟨o, h⟩) | h
  · exact .inl (.inl (x _ _ h n))
  · exact .inl (.inr ⟨o, x _ _ h n⟩)
  · exact .inr h
/-- what may be drawn from -/
def Menu (K : PySem.W.Frag) (H : Hp) (b : Addr) (x : V) (its : List V) : Prop :=
  (∃ a, x = .ref a ∧ a ≠ b ∧ SqL K H a its) ∨ (∃ a, x = .ref a ∧ a ≠ b ∧ SqT K H a its) ∨ (∃ z : Str, x = .str z ∧ z.length ≤ sizeLine ∧ its = z.cps.toList.map (fun c => V.str ⟨#[c]⟩))
def spAny (K : PySem.W.Frag) : Sp := fun vs H Q _ => ∃ (b c : Addr) (x : V) (its : List V), vs = [.ref b, x] ∧ Bag H b c ∧ Menu K H b x its ∧ 0 < its.length ∧ its.length < 1073741824 ∧
  ∀ (y : V) (H' : Hp), y ∈ its → Bag H' b c → Kp b H H' → Q y H'
theorem scAny : FnScope ["_law_bag_here", "_law_things"] ["_law_bag_here", "_law_things"] (defScope sAny) := ⟨rfl, rfl, rfl, by decide +kernel, rfl, by decide +kernel, by decide +kernel⟩
theorem str_len (z : Str) : z.length = z.cps.toList.length := by
  show z.cps.size = _
  rw [Array.length_toList]
theorem ok_any {f g : Addr} {fd gd : FuncData} (F : Fun K "_law_any" "_law_any" sAny f fd) (G : FnOk P w K mg base CX0 1 g gd ["_law_bag_here", "_law_many"] spPull) (bG : Binds K gd ["_law_bag_here", "_law_many"] []) (kG : PySem.W.keepIn K (.ref g) = true) (mG : mg "_law_pull" = some (.ref g))
    (mlen : mg "len" = none) : FnOk P w K mg base CX0 2 f fd ["_law_bag_here", "_law_things"] (spAny K) := by
  refine F.ok scAny (fun vs H Q E h => ?_) (fun cdv A outer s H vs Q E hr h => ?_)
  · obtain ⟨b, c, x, its, rfl, _⟩ := h
    rfl
  obtain ⟨b, c, x, its, rfl, B, M, l0, l1, q⟩ := h
  refine ⟨_, pss_one (ps_ret (pe_ix ix_seq (pv 1) (pe_call G hr (by rfl) mG kG bG .nil pass0 (pa_cons (pv 0) (pa_cons (pe_callB call_len (by rfl) mlen PySem.boot_len (pa_cons (pv 1) pa_nil)) pa_nil))) (fun _ _ => rfl))), ?_⟩
  have hlen : LenV K x H its.length := by
    rcases M with ⟨a, rfl, _, h⟩ | ⟨a, rfl, _, h⟩ | ⟨z, rfl, hz, rfl⟩
    · exact .inl ⟨_, h, rfl⟩
    · exact .inr ⟨_, h, rfl⟩
    · exact ⟨hz, by rw [List.length_map, str_len]⟩
  refine ⟨x, rfl, .ref b, rfl, x, rfl, x, its.length, rfl, hlen, b, c, _, rfl, B, by omega, by omega, fun d H' d0 d1 B' kp => ?_⟩
  have hd : d.toNat < its.length := by omega
  have ed : d = ((d.toNat : Nat) : Int) := by omega
  have hat : atI its d = some its[d.toNat] := by
    have e : atI its ((d.toNat : Nat) : Int) = some its[d.toNat] := atI_nat (by rw [List.getElem?_eq_getElem hd])
    rw [← ed] at e
    exact e
  have fin : Q its[d.toNat] H' := q _ _ (List.getElem_mem hd) B' kp
  rcases M with ⟨a, rfl, na, h⟩ | ⟨a, rfl, na, h⟩ | ⟨z, rfl, hz, rfl⟩
  · exact .inl ⟨a, _, d, _, rfl, rfl, kp.seqL na h, hat, fin⟩
  · exact .inr (.inl ⟨a, _, d, _, rfl, rfl, kp.seqT na h, hat, fin⟩)
  · have hc : d.toNat < z.cps.toList.length := by
      rw [List.length_map] at hd
      exact hd
    have e : atI z.cps.toList ((d.toNat : Nat) : Int) = some z.cps.toList[d.toNat] := atI_nat (by rw [List.getElem?_eq_getElem hc])
    rw [← ed] at e
    have e2 : (z.cps.toList.map (fun c => V.str ⟨#[c]⟩))[d.toNat] = V.str ⟨#[z.cps.toList[d.toNat]]⟩ := by rw [List.getElem_map]
    rw [e2] at fin
    exact .inr (.inr ⟨z, d, _, rfl, rfl, hz, e, fin⟩)
/-! two values that are equal and of the same kinds -/
abbrev sSame : Stmt := top 65
def Leaf : V → Prop
  | .non => True | .bl _ => True | .int _ => True | .str _ => True | _ => False
def Eqv (H : Hp) : Nat → V → V → Prop
  | 0, x, y => Leaf x ∧ x = y
  | n + 1, x, y => (Leaf x ∧ x = y) ∨ ∃ (a b : Addr) (xs ys : List V), x = .ref a ∧ y = .ref b ∧ xs.length = ys.length ∧ xs.length ≤ 100000 ∧ ((H a = some (.lst xs) ∧ H b = some (.lst ys)) ∨ (H a = some (.tup xs) ∧ H b = some (.tup ys))) ∧
      ∀ (i : Nat) (u v : V), xs[i]? = some u → ys[i]? = some v → Eqv H n u v
theorem Eqv.same {H H' : Hp} (s : Same H H') : ∀ {n : Nat} {x y : V}, Eqv H n x y → Eqv H' n x y
  | 0, _, _, h => h
  | n + 1, _, _, h => by
    rcases h with h | ⟨a, b, xs, ys, e1, e2, l, z, h, k⟩
    · exact .inl h
    · refine .inr ⟨a, b, xs, ys, e1, e2, l, z, ?_, fun i u v hu hv => Eqv.same s (k i u v hu hv)⟩
      rcases h with ⟨h1, h2⟩ | ⟨h1, h2⟩
      · exact .inl ⟨s _ _ h1, s _ _ h2⟩
      · exact .inr ⟨s _ _ h1, s _ _ h2⟩
theorem Eqv.leaf {H : Hp} {x : V} (h : Leaf x) : ∀ n, Eqv H n x x
  | 0 => ⟨h, rfl⟩
  | _ + 1 => .inl ⟨h, rfl⟩
def spSame : Nat → Sp
  | 0 => fun _ _ _ _ => False
  | n + 1 => fun vs H Q _ => ∃ (x y : V), vs = [x, y] ∧ Eqv H n x y ∧ ∀ H', Same H H' → Q (.bl true) H'
theorem kitLT {K : PySem.W.Frag} {a : String} {r1 r2 : Bool} (h1 : kitB a "list" = some r1) (h2 : kitB a "tuple" = some r2) : PySem.W.kitAny K (.type a) [.type "list", .type "tuple"] = some (r1 || r2) := by
  cases r1 with
  | true => exact kitAny_cons (kit_ty h1) (fun z => nomatch z) (fun _ => rfl)
  | false =>
    refine kitAny_cons (kit_ty h1) (fun _ => ?_) (fun z => nomatch z)
    cases r2 with
    | true => exact kitAny_cons (kit_ty h2) (fun z => nomatch z) (fun _ => rfl)
    | false => exact kitAny_cons (kit_ty h2) (fun _ => kitAny_nil) (fun z => nomatch z)
/-- a comprehension over zip, turn by turn -/
theorem lc_zipL {K : PySem.W.Frag} {a b : Addr} {xs ys : List V} {g : TG} {te : TE} {vs : List Nat} {σ : L2.St} {H1 : Hp} {D : Addr} {Qd : Hp → Prop} (hl : xs.length = ys.length) (Pv : Nat → Hp → Prop) (h0 : Pv 0 (upd H1 D (.lst []))) (hq : ∀ i H, Pv i H → SqL K H a xs ∧ SqL K H b ys)
    (hs : ∀ (i : Nat) (x y : V) (T : Addr) (H : Hp), xs[i]? = some x → ys[i]? = some y → Pv i H → H T = none → g (.ref T) (wipe σ vs) (upd H T (.tup [x, y])) fun σ2 H2 => wipe σ2 vs = wipe σ vs ∧ te σ2 H2 fun y H4 => ∃ acc, H4 D = some (.lst acc) ∧ acc.length < sizeLine ∧ Pv (i + 1) (upd H4 D (.lst (acc ++ [y])))) (hd : ∀ H, Pv xs.length H → Qd H) :
    ∃ W : Nat → Nat → Hp → Prop, (∃ m, W 0 m (upd H1 D (.lst []))) ∧ ∀ i m H, W i m H →
      ((Itz K a b).stop i H ∧ Qd H) ∨ ((Itz K a b).go i H ∧ ∃ Nx : Hp → Prop, (∀ H', Nx H' → ∃ m', m' < m ∧ W (i + 1) m' H') ∧ ∀ x H', (Itz K a b).yld i H x H' → g x (wipe σ vs) H' fun σ2 H2 => wipe σ2 vs = wipe σ vs ∧ tYes σ2 H2 fun b H3 =>
        if b = true then te σ2 H3 fun y H4 => ∃ acc, H4 D = some (.lst acc) ∧ acc.length < sizeLine ∧ Nx (upd H4 D (.lst (acc ++ [y]))) else Nx H3) := by
  refine ⟨fun i m H => m = xs.length - i ∧ i ≤ xs.length ∧ Pv i H, ⟨xs.length, rfl, Nat.zero_le _, h0⟩, ?_⟩
  rintro i m H ⟨rfl, hi, p⟩
  obtain ⟨qx, qy⟩ := hq i H p
  by_cases hlt : i < xs.length
  · have hx : xs[i]? = some xs[i] := List.getElem?_eq_getElem hlt
    have hlt2 : i < ys.length := by omega
    have hy : ys[i]? = some ys[i] := List.getElem?_eq_getElem hlt2
    refine .inr ⟨⟨xs, ys, _, _, qx, qy, hx, hy⟩, Pv (i + 1), fun H' p' => ⟨xs.length - (i + 1), by omega, rfl, hlt, p'⟩, fun v H' y => ?_⟩
    obtain ⟨T, x', y', rfl, hT, rfl, f1, f2⟩ := y
    exact hs i x' y' T H (f1 xs qx) (f2 ys qy) p hT
  · have e : i = xs.length := by omega
    subst e
    exact .inl ⟨⟨xs, ys, qx, qy, Or.inl (Nat.le_refl _)⟩, hd H p⟩
theorem lc_zipT {K : PySem.W.Frag} {a b : Addr} {xs ys : List V} {g : TG} {te : TE} {vs : List Nat} {σ : L2.St} {H1 : Hp} {D : Addr} {Qd : Hp → Prop} (hl : xs.length = ys.length) (Pv : Nat → Hp → Prop) (h0 : Pv 0 (upd H1 D (.lst []))) (hq : ∀ i H, Pv i H → SqT K H a xs ∧ SqT K H b ys)
    (hs : ∀ (i : Nat) (x y : V) (T : Addr) (H : Hp), xs[i]? = some x → ys[i]? = some y → Pv i H → H T = none → g (.ref T) (wipe σ vs) (upd H T (.tup [x, y])) fun σ2 H2 => wipe σ2 vs = wipe σ vs ∧ te σ2 H2 fun y H4 => ∃ acc, H4 D = some (.lst acc) ∧ acc.length < sizeLine ∧ Pv (i + 1) (upd H4 D (.lst (acc ++ [y])))) (hd : ∀ H, Pv xs.length H → Qd H) :
    ∃ W : Nat → Nat → Hp → Prop, (∃ m, W 0 m (upd H1 D (.lst []))) ∧ ∀ i m H, W i m H →
      ((RZ.ItzT K a b).stop i H ∧ Qd H) ∨ ((RZ.ItzT K a b).go i H ∧ ∃ Nx : Hp → Prop, (∀ H', Nx H' → ∃ m', m' < m ∧ W (i + 1) m' H') ∧ ∀ x H', (RZ.ItzT K a b).yld i H x H' → g x (wipe σ vs) H' fun σ2 H2 => wipe σ2 vs = wipe σ vs ∧ tYes σ2 H2 fun b H3 =>
        if b = true then te σ2 H3 fun y H4 => ∃ acc, H4 D = some (.lst acc) ∧ acc.length < sizeLine ∧ Nx (upd H4 D (.lst (acc ++ [y]))) else Nx H3) := by
  refine ⟨fun i m H => m = xs.length - i ∧ i ≤ xs.length ∧ Pv i H, ⟨xs.length, rfl, Nat.zero_le _, h0⟩, ?_⟩
  rintro i m H ⟨rfl, hi, p⟩
  obtain ⟨qx, qy⟩ := hq i H p
  by_cases hlt : i < xs.length
  · have hx : xs[i]? = some xs[i] := List.getElem?_eq_getElem hlt
    have hlt2 : i < ys.length := by omega
    have hy : ys[i]? = some ys[i] := List.getElem?_eq_getElem hlt2
    refine .inr ⟨⟨xs, ys, _, _, qx, qy, hx, hy⟩, Pv (i + 1), fun H' p' => ⟨xs.length - (i + 1), by omega, rfl, hlt, p'⟩, fun v H' y => ?_⟩
    obtain ⟨T, x', y', rfl, hT, rfl, f1, f2⟩ := y
    exact hs i x' y' T H (f1 xs qx) (f2 ys qy) p hT
  · have e : i = xs.length := by omega
    subst e
    exact .inl ⟨⟨xs, ys, qx, qy, Or.inl (Nat.le_refl _)⟩, hd H p⟩
/-- the built-in names that _law_same reads -/
structure SameTxt (mg : Str → Option Value) : Prop where
  isi : mg "isinstance" = none
  list : mg "list" = none
  tuple : mg "tuple" = none
  len : mg "len" = none
  all : mg "all" = none
  zip : mg "zip" = none
  bool : mg "bool" = none
  int : mg "int" = none
  str : mg "str" = none
theorem scSame : FnScope ["_law_found", "_law_due", "_law_one", "_law_two"] ["_law_found", "_law_due"] (defScope sSame) := ⟨rfl, rfl, rfl, by decide +kernel, rfl, by decide +kernel, by decide +kernel⟩
theorem all_true (n : Nat) : (List.replicate n true).all id = true := by
  induction n with
  | zero => rfl
  | succ n ih => rw [List.replicate_succ, List.all_cons, ih]; rfl
theorem ok_same {f : Addr} {fd : FuncData} {n : Nat} (F : Fun K "_law_same" "_law_same" sSame f fd) (T : SameTxt mg) (G : FnOk P w K mg base CX0 n f fd ["_law_found", "_law_due"] (spSame n)) (bG : Binds K fd ["_law_found", "_law_due"] []) (kG : PySem.W.keepIn K (.ref f) = true) (mG : mg "_law_same" = some (.ref f)) :
    FnOk P w K mg base CX0 (n + 1) f fd ["_law_found", "_law_due"] (spSame (n + 1)) := by
  refine F.ok scSame (fun vs H Q E h => ?_) (fun cdv A outer s H vs Q E hr h => ?_)
  · obtain ⟨x, y, rfl, _⟩ := h
    rfl
  obtain ⟨x, y, rfl, e, q⟩ := h
  refine ⟨_, pss_cons (ps_if (pt_val (pe_callB call_isiT (by rfl) T.isi (by decide +kernel) (pa_cons (pv 1) (pa_cons (pe_tup (pa_cons (pe_bltn (v := .ty "list") (by rfl) T.list (by decide +kernel) rfl) (pa_cons (pe_bltn (v := .ty "tuple") (by rfl) T.tuple (by decide +kernel) rfl) pa_nil))) pa_nil))))
      (pss_cons (ps_if (PW.pt (pw_or (pt_cmpR op_ne (pe_callB call_isi (by rfl) T.isi (by decide +kernel) (pa_cons (pv 0) (pa_cons (pe_bltn (v := .ty "list") (by rfl) T.list (by decide +kernel) rfl) pa_nil))) (pe_callB call_isi (by rfl) T.isi (by decide +kernel) (pa_cons (pv 1) (pa_cons (pe_bltn (v := .ty "list") (by rfl) T.list (by decide +kernel) rfl) pa_nil))) (nomark _))
          (pw_or1 (pt_cmpR op_ne (pe_callB call_isi (by rfl) T.isi (by decide +kernel) (pa_cons (pv 0) (pa_cons (pe_bltn (v := .ty "tuple") (by rfl) T.tuple (by decide +kernel) rfl) pa_nil))) (pe_callB call_isi (by rfl) T.isi (by decide +kernel) (pa_cons (pv 1) (pa_cons (pe_bltn (v := .ty "tuple") (by rfl) T.tuple (by decide +kernel) rfl) pa_nil))) (nomark _)))))
          (pss_one (ps_ret pe_bl)) pss_nil)
      (pss_one (ps_ret (pe_and (pe_cmpR op_eq (pe_callB call_len_seq (by rfl) T.len PySem.boot_len (pa_cons (pv 0) pa_nil)) (pe_callB call_len_seq (by rfl) T.len PySem.boot_len (pa_cons (pv 1) pa_nil)) (nomark _)) (pe_one (pe_callB (cr_all rfl) (by rfl) T.all (by decide +kernel) (pa_cons
          (pe_lc (own := [("_law_one", 2), ("_law_two", 3)]) (g := gTup K 2 (gCons (gName 2) (gCons (gName 3) gNil))) rfl scSame.nd (RZ.pi_zipA (by rfl) T.zip (pa_cons (pv 0) (pa_cons (pv 1) pa_nil))) (blkOk_by (own := [("_law_one", 2), ("_law_two", 3)]) (N := ["_law_found", "_law_due", "_law_one", "_law_two"]) (sc := defScope sSame) (by decide +kernel))
            (fun _ _ _ _ _ => pg_tup (n := 2) rfl (pgs_cons (pg_name (i := 2) scSame.nd rfl (Or.inl rfl) (Or.inr rfl)) (pgs_cons (pg_name (i := 3) scSame.nd rfl (Or.inl rfl) (Or.inr rfl)) pgs_nil))) (fun _ _ _ _ _ => pts_nil)
            (fun _ _ _ _ _ => pe_call G hr (by rfl) mG kG bG .nil pass0 (pa_cons (pv 2) (pa_cons (pv 3) pa_nil)))) pa_nil)))))))
      pss_nil)
    (pss_cons (ps_if (PW.pt (pw_or (pt_cmpR op_isN (pv 1) pe_non (nomark _)) (pw_or1 (pt_cmpR op_isN (pv 0) pe_non (nomark _))))) (pss_one (ps_ret (pe_and (pe_cmpR op_isN (pv 1) pe_non (nomark _)) (pe_one (pe_cmpR op_isN (pv 0) pe_non (nomark _)))))) pss_nil)
    (pss_cons (ps_if (PW.pt (pw_or (pt_cmpR op_ne (pe_callB call_isi (by rfl) T.isi (by decide +kernel) (pa_cons (pv 0) (pa_cons (pe_bltn (v := .ty "bool") (by rfl) T.bool (by decide +kernel) rfl) pa_nil))) (pe_callB call_isi (by rfl) T.isi (by decide +kernel) (pa_cons (pv 1) (pa_cons (pe_bltn (v := .ty "bool") (by rfl) T.bool (by decide +kernel) rfl) pa_nil))) (nomark _))
          (pw_or1 (pt_cmpR op_ne (pe_callB call_isi (by rfl) T.isi (by decide +kernel) (pa_cons (pv 0) (pa_cons (pe_bltn (v := .ty "int") (by rfl) T.int (by decide +kernel) rfl) pa_nil))) (pe_callB call_isi (by rfl) T.isi (by decide +kernel) (pa_cons (pv 1) (pa_cons (pe_bltn (v := .ty "int") (by rfl) T.int (by decide +kernel) rfl) pa_nil))) (nomark _)))))
          (pss_one (ps_ret pe_bl)) pss_nil)
    (pss_one (ps_ret (pe_and (pe_cmpR op_eq (pe_callB call_isi (by rfl) T.isi (by decide +kernel) (pa_cons (pv 0) (pa_cons (pe_bltn (v := .ty "str") (by rfl) T.str (by decide +kernel) rfl) pa_nil))) (pe_callB call_isi (by rfl) T.isi (by decide +kernel) (pa_cons (pv 1) (pa_cons (pe_bltn (v := .ty "str") (by rfl) T.str (by decide +kernel) rfl) pa_nil))) (nomark _)) (pe_one (pe_cmpR op_eq (pv 0) (pv 1) (nomark _)))))))), ?_⟩
  have ht : ∀ t, H t = none → Same H (upd H t (.tup [.ty "list", .ty "tuple"])) := fun t h => same_upd h _
  have hz : ([V.ty "list", V.ty "tuple"] : List V).length ≤ sizeLine := by show 2 ≤ sizeLine; decide
  have kinds : (Leaf x ∧ x = y) ∨ ∃ (m : Nat) (a b : Addr) (xs ys : List V), n = m + 1 ∧ x = .ref a ∧ y = .ref b ∧ xs.length = ys.length ∧ xs.length ≤ 100000 ∧ ((H a = some (.lst xs) ∧ H b = some (.lst ys)) ∨ (H a = some (.tup xs) ∧ H b = some (.tup ys))) ∧
      ∀ (i : Nat) (u v : V), xs[i]? = some u → ys[i]? = some v → Eqv H m u v := by
    cases n with
    | zero => exact .inl e
    | succ m =>
      rcases e with e | ⟨a, b, xs, ys, e⟩
      · exact .inl e
      · exact .inr ⟨m, a, b, xs, ys, rfl, e⟩
  rcases kinds with ⟨lx, exy⟩ | ⟨m, a, b, xs, ys, rfl, rfl, rfl, hl, h100, hk, el⟩
  · subst exy
    cases x with
    | non =>
      refine ⟨_, rfl, hz, fun t h => ?_⟩
      refine ⟨_, t, _, _, [.type "list", .type "tuple"], _, rfl, upd_same, .cons (.ty _) (.cons (.ty _) .nil), (.base .non), kitLT (r1 := false) (r2 := false) (by decide +kernel) (by decide +kernel), ?_⟩
      refine ⟨_, rfl, iteF ?_⟩
      refine ⟨_, rfl, rfl, _, rfl, iteT ?_⟩
      refine ⟨_, rfl, rfl, _, rfl, iteT ?_⟩
      refine ⟨_, rfl, rfl, ?_⟩
      exact q _ (ht t h)
    | bl z =>
      refine ⟨_, rfl, hz, fun t h => ?_⟩
      refine ⟨_, t, _, _, [.type "list", .type "tuple"], _, rfl, upd_same, .cons (.ty _) (.cons (.ty _) .nil), (.base (.bl z)), kitLT (r1 := false) (r2 := false) (by decide +kernel) (by decide +kernel), ?_⟩
      refine ⟨_, rfl, iteF ?_⟩
      refine ⟨_, rfl, rfl, _, rfl, iteF ?_⟩
      refine ⟨_, rfl, rfl, _, rfl, iteF ?_⟩
      refine ⟨_, rfl, _, _, _, _, true, rfl, .ty _, (.base (.bl z)), kit_ty (by decide +kernel), _, rfl, _, _, _, _, true, rfl, .ty _, (.base (.bl z)), kit_ty (by decide +kernel), rfl, _, rfl, iteF ?_⟩
      refine ⟨_, rfl, _, _, _, _, true, rfl, .ty _, (.base (.bl z)), kit_ty (by decide +kernel), _, rfl, _, _, _, _, true, rfl, .ty _, (.base (.bl z)), kit_ty (by decide +kernel), rfl, _, rfl, iteF ?_⟩
      refine ⟨_, rfl, _, _, _, _, false, rfl, .ty _, (.base (.bl z)), kit_ty (by decide +kernel), _, rfl, _, _, _, _, false, rfl, .ty _, (.base (.bl z)), kit_ty (by decide +kernel), rfl, _, rfl, iteT ?_⟩
      refine ⟨_, rfl, _, rfl, rfl, ?_⟩
      rw [decide_eq_true rfl]
      exact q _ (ht t h)
    | int z =>
      refine ⟨_, rfl, hz, fun t h => ?_⟩
      refine ⟨_, t, _, _, [.type "list", .type "tuple"], _, rfl, upd_same, .cons (.ty _) (.cons (.ty _) .nil), (.base (.int z)), kitLT (r1 := false) (r2 := false) (by decide +kernel) (by decide +kernel), ?_⟩
      refine ⟨_, rfl, iteF ?_⟩
      refine ⟨_, rfl, rfl, _, rfl, iteF ?_⟩
      refine ⟨_, rfl, rfl, _, rfl, iteF ?_⟩
      refine ⟨_, rfl, _, _, _, _, false, rfl, .ty _, (.base (.int z)), kit_ty (by decide +kernel), _, rfl, _, _, _, _, false, rfl, .ty _, (.base (.int z)), kit_ty (by decide +kernel), rfl, _, rfl, iteF ?_⟩
      refine ⟨_, rfl, _, _, _, _, true, rfl, .ty _, (.base (.int z)), kit_ty (by decide +kernel), _, rfl, _, _, _, _, true, rfl, .ty _, (.base (.int z)), kit_ty (by decide +kernel), rfl, _, rfl, iteF ?_⟩
      refine ⟨_, rfl, _, _, _, _, false, rfl, .ty _, (.base (.int z)), kit_ty (by decide +kernel), _, rfl, _, _, _, _, false, rfl, .ty _, (.base (.int z)), kit_ty (by decide +kernel), rfl, _, rfl, iteT ?_⟩
      refine ⟨_, rfl, _, rfl, rfl, ?_⟩
      rw [decide_eq_true rfl]
      exact q _ (ht t h)
    | str z =>
      refine ⟨_, rfl, hz, fun t h => ?_⟩
      refine ⟨_, t, _, _, [.type "list", .type "tuple"], _, rfl, upd_same, .cons (.ty _) (.cons (.ty _) .nil), (.base (.str z)), kitLT (r1 := false) (r2 := false) (by decide +kernel) (by decide +kernel), ?_⟩
      refine ⟨_, rfl, iteF ?_⟩
      refine ⟨_, rfl, rfl, _, rfl, iteF ?_⟩
      refine ⟨_, rfl, rfl, _, rfl, iteF ?_⟩
      refine ⟨_, rfl, _, _, _, _, false, rfl, .ty _, (.base (.str z)), kit_ty (by decide +kernel), _, rfl, _, _, _, _, false, rfl, .ty _, (.base (.str z)), kit_ty (by decide +kernel), rfl, _, rfl, iteF ?_⟩
      refine ⟨_, rfl, _, _, _, _, false, rfl, .ty _, (.base (.str z)), kit_ty (by decide +kernel), _, rfl, _, _, _, _, false, rfl, .ty _, (.base (.str z)), kit_ty (by decide +kernel), rfl, _, rfl, iteF ?_⟩
      refine ⟨_, rfl, _, _, _, _, true, rfl, .ty _, (.base (.str z)), kit_ty (by decide +kernel), _, rfl, _, _, _, _, true, rfl, .ty _, (.base (.str z)), kit_ty (by decide +kernel), rfl, _, rfl, iteT ?_⟩
      refine ⟨_, rfl, _, rfl, rfl, ?_⟩
      rw [decide_eq_true rfl]
      exact q _ (ht t h)
    | _ => exact lx.elim
  · -- what a turn brings: the item's answer True is appended
    have turn : ∀ (D : Addr), H D = none → ∀ (i : Nat) (u v : V) (T : Addr) (H2 : Hp), xs[i]? = some u → ys[i]? = some v → (Same H H2 ∧ H2 D = some (.lst (List.replicate i (.bl true)))) → H2 T = none → True := fun _ _ _ _ _ _ _ _ _ _ _ => trivial
    rcases hk with ⟨ha, hb⟩ | ⟨ha, hb⟩
    · refine ⟨_, rfl, hz, fun t h => ?_⟩
      have s1 := ht t h
      refine ⟨_, t, _, _, [.type "list", .type "tuple"], _, rfl, upd_same, .cons (.ty _) (.cons (.ty _) .nil), (.base (.lst (s1 _ _ hb))), kitLT (r1 := true) (r2 := false) (by decide +kernel) (by decide +kernel), ?_⟩
      refine ⟨_, rfl, iteT ?_⟩
      refine ⟨_, rfl, _, _, _, _, true, rfl, .ty _, (.base (.lst (s1 _ _ ha))), kit_ty (by decide +kernel), _, rfl, _, _, _, _, true, rfl, .ty _, (.base (.lst (s1 _ _ hb))), kit_ty (by decide +kernel), rfl, _, rfl, iteF ?_⟩
      refine ⟨_, rfl, _, _, _, _, false, rfl, .ty _, (.base (.lst (s1 _ _ ha))), kit_ty (by decide +kernel), _, rfl, _, _, _, _, false, rfl, .ty _, (.base (.lst (s1 _ _ hb))), kit_ty (by decide +kernel), rfl, _, rfl, iteF ?_⟩
      refine ⟨_, rfl, a, _, rfl, .inl (SqL.of (s1 _ _ ha)), _, rfl, b, _, rfl, .inl (SqL.of (s1 _ _ hb)), rfl, _, rfl, ?_⟩
      rw [show decide (V.int ((xs.length : Nat) : Int) = V.int ((ys.length : Nat) : Int)) = true from decide_eq_true (by rw [hl])]
      refine iteT ?_
      refine ⟨_, rfl, _, rfl, a, b, xs, ys, rfl, .inl ⟨SqL.of (s1 _ _ ha), SqL.of (s1 _ _ hb), fun D hD => ?_⟩⟩
      have s2 := s1.trans (same_upd hD (.lst []))
      refine lc_zipL hl (fun i H2 => Same H H2 ∧ H2 D = some (.lst (List.replicate i (.bl true)))) ⟨s2, upd_same⟩ (fun i H2 ⟨s3, _⟩ => ⟨SqL.of (s3 _ _ ha), SqL.of (s3 _ _ hb)⟩) (fun i u v T H2 hu hv ⟨s3, hD2⟩ hT => ?_) (fun H2 ⟨s3, hD2⟩ => ?_)
      · refine ⟨T, [u, v], rfl, SqT.of upd_same, rfl, u, [v], rfl, v, [], rfl, rfl, rfl, ?_⟩
        have s4 := s3.trans (same_upd hT (.tup [u, v]))
        refine ⟨_, rfl, _, rfl, u, v, rfl, (el i u v hu hv).same s4, fun H3 s5 => ?_⟩
        have hDT : D ≠ T := ne_of_none hD2 hT
        refine ⟨_, s5 _ _ (by rw [upd_ne hDT]; exact hD2), ?_, fun c o e => ?_, ?_⟩
        · rw [List.length_replicate]
          have : i < xs.length := (List.getElem?_eq_some_iff.mp hu).1
          exact Nat.lt_of_lt_of_le (show i < 100000 by omega) (by decide)
        · have nc : c ≠ D := ne_of_none e (s1.free hD)
          rw [upd_ne nc]
          exact s5 _ _ (s4 _ _ e)
        · rw [upd_same, ← List.replicate_succ']
      · refine ⟨D, List.replicate xs.length true, rfl, SqL.of (by rw [hD2, List.map_replicate]), ?_⟩
        rw [all_true]
        exact q _ s3
    · refine ⟨_, rfl, hz, fun t h => ?_⟩
      have s1 := ht t h
      refine ⟨_, t, _, _, [.type "list", .type "tuple"], _, rfl, upd_same, .cons (.ty _) (.cons (.ty _) .nil), (.base (.tup (s1 _ _ hb))), kitLT (r1 := false) (r2 := true) (by decide +kernel) (by decide +kernel), ?_⟩
      refine ⟨_, rfl, iteT ?_⟩
      refine ⟨_, rfl, _, _, _, _, false, rfl, .ty _, (.base (.tup (s1 _ _ ha))), kit_ty (by decide +kernel), _, rfl, _, _, _, _, false, rfl, .ty _, (.base (.tup (s1 _ _ hb))), kit_ty (by decide +kernel), rfl, _, rfl, iteF ?_⟩
      refine ⟨_, rfl, _, _, _, _, true, rfl, .ty _, (.base (.tup (s1 _ _ ha))), kit_ty (by decide +kernel), _, rfl, _, _, _, _, true, rfl, .ty _, (.base (.tup (s1 _ _ hb))), kit_ty (by decide +kernel), rfl, _, rfl, iteF ?_⟩
      refine ⟨_, rfl, a, _, rfl, .inr (SqT.of (s1 _ _ ha)), _, rfl, b, _, rfl, .inr (SqT.of (s1 _ _ hb)), rfl, _, rfl, ?_⟩
      rw [show decide (V.int ((xs.length : Nat) : Int) = V.int ((ys.length : Nat) : Int)) = true from decide_eq_true (by rw [hl])]
      refine iteT ?_
      refine ⟨_, rfl, _, rfl, a, b, xs, ys, rfl, .inr ⟨SqT.of (s1 _ _ ha), SqT.of (s1 _ _ hb), fun D hD => ?_⟩⟩
      have s2 := s1.trans (same_upd hD (.lst []))
      refine lc_zipT hl (fun i H2 => Same H H2 ∧ H2 D = some (.lst (List.replicate i (.bl true)))) ⟨s2, upd_same⟩ (fun i H2 ⟨s3, _⟩ => ⟨SqT.of (s3 _ _ ha), SqT.of (s3 _ _ hb)⟩) (fun i u v T H2 hu hv ⟨s3, hD2⟩ hT => ?_) (fun H2 ⟨s3, hD2⟩ => ?_)
      · refine ⟨T, [u, v], rfl, SqT.of upd_same, rfl, u, [v], rfl, v, [], rfl, rfl, rfl, ?_⟩
        have s4 := s3.trans (same_upd hT (.tup [u, v]))
        refine ⟨_, rfl, _, rfl, u, v, rfl, (el i u v hu hv).same s4, fun H3 s5 => ?_⟩
        have hDT : D ≠ T := ne_of_none hD2 hT
        refine ⟨_, s5 _ _ (by rw [upd_ne hDT]; exact hD2), ?_, fun c o e => ?_, ?_⟩
        · rw [List.length_replicate]
          have : i < xs.length := (List.getElem?_eq_some_iff.mp hu).1
          exact Nat.lt_of_lt_of_le (show i < 100000 by omega) (by decide)
        · have nc : c ≠ D := ne_of_none e (s1.free hD)
          rw [upd_ne nc]
          exact s5 _ _ (s4 _ _ e)
        · rw [upd_same, ← List.replicate_succ']
      · refine ⟨D, List.replicate xs.length true, rfl, SqL.of (by rw [hD2, List.map_replicate]), ?_⟩
        rw [all_true]
        exact q _ s3
theorem no_same {f : Addr} {fd : FuncData} : FnOk P w K mg base CX0 0 f fd ["_law_found", "_law_due"] (spSame 0) :=
  ⟨fun vs H Q E h => False.elim h, fun A outer s H args us vs Q E _ _ _ _ h => False.elim h⟩
theorem all_same {f : Addr} {fd : FuncData} (F : Fun K "_law_same" "_law_same" sSame f fd) (T : SameTxt mg) (bG : Binds K fd ["_law_found", "_law_due"] []) (mG : mg "_law_same" = some (.ref f)) :
    ∀ n, FnOk P w K mg base CX0 n f fd ["_law_found", "_law_due"] (spSame n)
  | 0 => no_same
  | n + 1 => ok_same F T (all_same F T bG mG n) bG F.kp mG
/-! ### a call by keywords alone -/
open PySem.Spec PyProof.Rows in
theorem pe_callN0 {X : Cx} {CX : CXT} {k : Nat} {f : Addr} {fd : FuncData} {ps ks : List Str} {sp : Sp} {E : XK} {x : Str} {p pos : Pos} {kws : List Keyword} {tk : TA} {g : List Value → List Value → List Value} {gV : List V → List V → List V}
    (F : FnOk X.prog X.w X.K X.mg X.base CX k f fd ps sp) (hr : Room k X.A) (hg : Gl X x) (hm : X.mg x = some (.ref f)) (hk : PySem.W.keepIn X.K (.ref f) = true) (hb : KBn X.K fd ps 0 ks g gV) (hx : Passes CX X E)
    (hkw : PK X kws tk) (hall : (backToKw pos (keywordEach kws X.env)).all (·.1.isSome) = true := by rfl) (hks : (backToKw pos (keywordEach kws X.env)).filterMap (·.1) = ks := by rfl)
    (hdb : (x == ("__debug__" : Str)) = false := by decide) (hpl : ((backTo pos (starEach [] X.env)).any (·.1) || (backToKw pos (keywordEach kws X.env)).any (·.1.isNone)) = false := by rfl) :
    PE X (.Call (.Name x p) [] kws pos) (tCallN 0 ks.length sp gV E tNil tk) := by
  refine ⟨fun pins s σ H Q I h => ?_⟩
  refine wpAny_Call_Name_kw (ld_glob I hg hm ?_ hdb)
  refine PySem.W.callWith_KW0 (h₀ := X.base) I.ok.mod.kin hk hall ?_ hpl
  refine thn (hkw.run pos pins s σ H _ I h) fun ws s2 ⟨zs, H2, I2, rz, l1, l2, q2⟩ => ⟨I2.kIn, ?_⟩
  rw [hks]
  exact run_fnN (us := []) (vs := []) F hr hb hx I2 .nil rz rfl l2 q2
theorem Fun.kbn {x qual : Str} {st : Stmt} {f : Addr} {fd : FuncData} {ps : List Str} (F : Fun K x qual st f fd) (n : Nat) (ks : List Str) (g : List Value → List Value → List Value) (gV : List V → List V → List V)
    (hrel : ∀ {vs : List V} {us : List Value} {zs : List V} {ws : List Value}, Vals vs us → Vals zs ws → Vals (gV vs zs) (g us ws))
    (h : ∀ (kV doc pm : Value) (an : Option Addr) (cdv ct : Value) (us ws : List Value), us.length = n → ws.length = ks.length → bindArgs (PySem.W.fnOf x qual (defArgs st) (defBody st) (defScope st) .none kV doc pm an cdv ct) ⟨us, ks.zip ws⟩ = pure (ps.zip (g us ws))) : KBn K fd ps n ks g gV := by
  obtain ⟨oc, od, kV, doc, pm, an, cdv, ct, osl, rfl, lk, hcd⟩ := F.ex
  exact ⟨fun s us ws _ l1 l2 => BindsTo.of_eq (h kV doc pm an cdv ct us ws l1 l2), hrel⟩
theorem Vals.rev {xs : List V} {us : List Value} (r : Vals xs us) : Vals xs.reverse us.reverse := by
  induction r with
  | nil => exact .nil
  | cons h t ih =>
    rw [List.reverse_cons, List.reverse_cons]
    exact ih.append (.cons h .nil)
def spLaw (K : PySem.W.Frag) : Sp := fun vs H Q _ => ∃ (a : Addr) (ns : List Int), vs = [.ref a] ∧ SqL K H a (ns.map V.int) ∧ ns.length ≤ 63 ∧ ∀ H', Q (.bl true) H'
/-- a def of the text, what it keeps, how it is called -/
structure Df (P : Program) (w : World) (K : PySem.W.Frag) (mg : Str → Option Value) (base : Heap) (k : Nat) (f : Addr) (fd : FuncData) (x : Str) (ps : List Str) (sp : Sp) : Prop where
  ok : FnOk P w K mg base CX0 k f fd ps sp
  b : Binds K fd ps []
  kp : PySem.W.keepIn K (.ref f) = true
  m : mg x = some (.ref f)
abbrev letters : Str := "abcdefghijklmnopqrstuvwxyz"
def lowB (z : Str) : Bool := z.cps.toList.all fun c => decide (c ∈ letters.cps.toList)
/-- a comprehension over a text, sign by sign -/
theorem lc_str {z : Str} {g : TG} {te : TE} {vs : List Nat} {σ : L2.St} {H1 : Hp} {D : Addr} {Qd : Hp → Prop} (Pv : Nat → Hp → Prop) (h0 : Pv 0 (upd H1 D (.lst [])))
    (hs : ∀ (i : Nat) (c : Nat) (H : Hp), z.cps.toList[i]? = some c → Pv i H → g (.str ⟨#[c]⟩) (wipe σ vs) H fun σ2 H2 => wipe σ2 vs = wipe σ vs ∧ te σ2 H2 fun y H4 => ∃ acc, H4 D = some (.lst acc) ∧ acc.length < sizeLine ∧ Pv (i + 1) (upd H4 D (.lst (acc ++ [y])))) (hd : ∀ H, Pv z.cps.toList.length H → Qd H) :
    ∃ W : Nat → Nat → Hp → Prop, (∃ m, W 0 m (upd H1 D (.lst []))) ∧ ∀ i m H, W i m H →
      ((Its z).stop i H ∧ Qd H) ∨ ((Its z).go i H ∧ ∃ Nx : Hp → Prop, (∀ H', Nx H' → ∃ m', m' < m ∧ W (i + 1) m' H') ∧ ∀ x H', (Its z).yld i H x H' → g x (wipe σ vs) H' fun σ2 H2 => wipe σ2 vs = wipe σ vs ∧ tYes σ2 H2 fun b H3 =>
        if b = true then te σ2 H3 fun y H4 => ∃ acc, H4 D = some (.lst acc) ∧ acc.length < sizeLine ∧ Nx (upd H4 D (.lst (acc ++ [y]))) else Nx H3) := by
  have hsz : z.cps.size = z.cps.toList.length := (Array.length_toList).symm
  refine ⟨fun i m H => m = z.cps.toList.length - i ∧ i ≤ z.cps.toList.length ∧ Pv i H, ⟨z.cps.toList.length, rfl, Nat.zero_le _, h0⟩, ?_⟩
  rintro i m H ⟨rfl, hi, p⟩
  by_cases hlt : i < z.cps.toList.length
  · refine .inr ⟨(by show i < z.cps.size; omega), Pv (i + 1), fun H' p' => ⟨z.cps.toList.length - (i + 1), by omega, rfl, hlt, p'⟩, fun v H' y => ?_⟩
    obtain ⟨rfl, c, hc, rfl⟩ := y
    refine hs i c H' ?_ p
    rw [Array.getElem?_toList]
    exact hc
  · have e : i = z.cps.toList.length := by omega
    subst e
    exact .inl ⟨(by show z.cps.size ≤ _; omega), hd H p⟩
theorem kSq {z : Str} {i : Nat} {c : Nat} (f : Nat → Bool) (h : z.cps.toList[i]? = some c) : (z.cps.toList.take (i + 1)).map f = (z.cps.toList.take i).map f ++ [f c] := by
  rw [List.take_add_one, h, List.map_append]
  rfl
/-! ### names -/
abbrev sNames : Stmt := top 67
theorem tlen (z : Str) : z.length = (tl z).length := str_len z
theorem lowB_tl (z : Str) : lowB z = (tl z).all fun c => decide (c ∈ letters.cps.toList) := rfl
theorem lowB_of {z : Str} (h : ∀ c ∈ tl z, c ∈ letters.cps.toList) : lowB z = true := by
  rw [lowB_tl, List.all_eq_true]
  intro c hc
  exact decide_eq_true (h c hc)
theorem tl_cut (z : Str) (lo hi : Option Int) : tl (cutS z lo hi) = ((tl z).drop (HT.sIx z.length 0 lo)).take (HT.sIx z.length z.length hi - HT.sIx z.length 0 lo) := rfl
theorem tl_cut_to (z : Str) (k : Int) (h0 : 0 ≤ k) (h1 : k ≤ (z.length : Int)) : tl (cutS z none (some k)) = (tl z).take k.toNat := by
  obtain ⟨n, rfl⟩ : ∃ n : Nat, k = (n : Int) := ⟨k.toNat, by omega⟩
  rw [tl_cut, HT.sIx_none, HT.sIx_nat, List.drop_zero, Nat.sub_zero, Int.toNat_natCast, Nat.min_eq_left (by omega)]
theorem tl_cut_from (z : Str) (k : Int) (h0 : 0 ≤ k) (h1 : k ≤ (z.length : Int)) : tl (cutS z (some k) none) = (tl z).drop k.toNat := by
  obtain ⟨n, rfl⟩ : ∃ n : Nat, k = (n : Int) := ⟨k.toNat, by omega⟩
  rw [tl_cut, HT.sIx_none, HT.sIx_nat, Int.toNat_natCast, Nat.min_eq_left (by omega), List.take_of_length_le]
  rw [List.length_drop, tlen]
  exact Nat.le_refl _
theorem glue_signs : ∀ cs : List Nat, tl (Txt.join Str.empty (cs.map fun c => (⟨#[c]⟩ : Str))) = cs := by
  have h : ∀ cs : List Nat, joinL [] (cs.map fun c => [c]) = cs := by
    intro cs
    induction cs with
    | nil => rfl
    | cons x r ih =>
      cases r with
      | nil => rfl
      | cons y r => 
        show [x] ++ ([] ++ joinL [] ((y :: r).map fun c => [c])) = x :: y :: r
        rw [ih]
        rfl
  intro cs
  show tl (Builtin.Str.glued _ _) = _
  rw [StrLaws.glued_eq_join, tl_join, List.map_map]
  exact h cs
structure IsNm (z : Str) : Prop where
  low : ∀ c ∈ tl z, c ∈ letters.cps.toList
  l1 : 1 ≤ z.length
  l4 : z.length ≤ 4
def spNames : Sp := fun vs H Q _ => ∃ (b c : Addr) (many : Int), vs = [.ref b, .int many] ∧ Bag H b c ∧ 0 ≤ many ∧ many ≤ 26 ∧
  ∀ (l : Addr) (ws : List Str) (H' : Hp), (ws.length : Int) = many → (∀ z ∈ ws, IsNm z) → Bag H' b c → Kp b H H' → H l = none → H' l = some (.lst (ws.map V.str)) → Q (.ref l) H'
theorem Kp.new {b p : Addr} {H H' : Hp} (k : Kp b H H') (hp : H' p = none) (o : HO) : Kp b H (upd H' p o) := fun a u h n => by rw [upd_ne (ne_of_none (k a u h n) hp)]; exact k a u h n
theorem Kp.free {b c p : Addr} {H H' : Hp} (k : Kp b H H') (B : Bag H' b c) (hp : H' p = none) : H p = none := by
  have hb : p ≠ b := B.fresh hp
  cases e : H p with
  | none => rfl
  | some o =>
    rw [k p o e hb] at hp
    cases hp
theorem Bag.ne_new {H : Hp} {b c q : Addr} (B : Bag H b c) (h : H q = none) : b ≠ q ∧ c ≠ q := by
  obtain ⟨ns, p, r, s, k, B⟩ := B
  exact ⟨ne_of_none B.lb h, ne_of_none B.lc h⟩
theorem Bag.wr {H : Hp} {b c q : Addr} (B : Bag H b c) (n : b ≠ q ∧ c ≠ q) (o : HO) : Bag (upd H q o) b c := by
  obtain ⟨ns, p, r, s, k, B⟩ := B
  exact ⟨ns, p, r, s, k, by rw [upd_ne n.1]; exact B.lb, by rw [upd_ne n.2]; exact B.lc, B.nl, B.p0, B.s0, B.s1, B.r0⟩
theorem Kp.wr {b p : Addr} {H H' : Hp} (k : Kp b H H') (hp : H p = none) (o : HO) : Kp b H (upd H' p o) := fun a u h n => by rw [upd_ne (ne_of_none h hp)]; exact k a u h n
theorem scNames : FnScope ["_law_bag_here", "_law_many", "_law_letters", "_law_stem", "_law_at", "_law_first", "_law_k"] ["_law_bag_here", "_law_many"] (defScope sNames) := ⟨rfl, rfl, rfl, by decide +kernel, rfl, by decide +kernel, by decide +kernel⟩
theorem ok_names {f gp ga : Addr} {fd gpd gad : FuncData} (F : Fun K "_law_names" "_law_names" sNames f fd) (GP : FnOk P w K mg base CX0 1 gp gpd ["_law_bag_here", "_law_many"] spPull) (bP : Binds K gpd ["_law_bag_here", "_law_many"] []) (kP : PySem.W.keepIn K (.ref gp) = true) (mP : mg "_law_pull" = some (.ref gp))
    (GA : FnOk P w K mg base CX0 2 ga gad ["_law_bag_here", "_law_things"] (spAny K)) (bA : Binds K gad ["_law_bag_here", "_law_things"] []) (kA : PySem.W.keepIn K (.ref ga) = true) (mA : mg "_law_any" = some (.ref ga)) (mlen : mg "len" = none) (mint : mg "int" = none) (mrange : mg "range" = none) :
    FnOk P w K mg base CX0 3 f fd ["_law_bag_here", "_law_many"] spNames := by
  refine F.ok scNames (fun vs H Q E h => ?_) (fun cdv A outer s H vs Q E hr h => ?_)
  · obtain ⟨b, c, many, rfl, _⟩ := h
    rfl
  obtain ⟨b, c, many, rfl, B, m0, m1, q⟩ := h
  have hr1 : Room 1 _ := hr.mono (by decide)
  refine ⟨_, pss_cons (ps_set (i := 2) scNames.nd rfl (Or.inr rfl) pe_str)
    (pss_cons (ps_set (i := 3) scNames.nd rfl (Or.inr rfl) (pe_join pe_str (pe_lc (own := [("_law_k", 6)]) (g := gName 6) rfl scNames.nd (pi_range1 (by rfl) mrange (pa_cons (pe_call GP hr1 (by rfl) mP kP bP .nil pass0 (pa_cons (pv 0) (pa_cons pe_int pa_nil))) pa_nil))
        (blkOk_by (own := [("_law_k", 6)]) (N := ["_law_bag_here", "_law_many", "_law_letters", "_law_stem", "_law_at", "_law_first", "_law_k"]) (sc := defScope sNames) (by decide +kernel))
        (fun _ _ _ _ _ => pg_name (i := 6) scNames.nd rfl (Or.inl rfl) (Or.inr rfl)) (fun _ _ _ _ _ => pts_nil)
        (fun _ _ _ _ _ => pe_call GA hr (by rfl) mA kA bA .nil pass0 (pa_cons (pv 0) (pa_cons (pv 2) pa_nil))))))
    (pss_cons (ps_asg (pe_tup (pa_cons (pe_call GP hr1 (by rfl) mP kP bP .nil pass0 (pa_cons (pv 0) (pa_cons (pe_op op_add (pe_callB call_len (by rfl) mlen PySem.boot_len (pa_cons (pv 3) pa_nil)) pe_int) pa_nil))) (pa_cons (pe_call GP hr1 (by rfl) mP kP bP .nil pass0 (pa_cons (pv 0) (pa_cons pe_int pa_nil))) pa_nil)))
        (pg_tup (n := 2) rfl (pgs_cons (pg_name (i := 4) scNames.nd rfl (Or.inr rfl) (Or.inl rfl)) (pgs_cons (pg_name (i := 5) scNames.nd rfl (Or.inr rfl) (Or.inl rfl)) pgs_nil))))
    (pss_one (ps_ret (pe_lc (own := [("_law_k", 6)]) (g := gName 6) rfl scNames.nd (pi_range1 (by rfl) mrange (pa_cons (pv 1) pa_nil))
        (blkOk_by (own := [("_law_k", 6)]) (N := ["_law_bag_here", "_law_many", "_law_letters", "_law_stem", "_law_at", "_law_first", "_law_k"]) (sc := defScope sNames) (by decide +kernel))
        (fun _ _ _ _ _ => pg_name (i := 6) scNames.nd rfl (Or.inl rfl) (Or.inr rfl)) (fun _ _ _ _ _ => pts_nil)
        (fun _ _ _ _ _ => pe_op op_add_str (pe_op op_add_str (pe_slice sl_str (pv 3) po_none (po_some (pv 4)))
          (pe_ix ix_str (pv 2) (pe_op op_mod (pe_callTy call_int1 (by rfl) mint (by decide +kernel) (pa_cons (pe_op op_add (pv 5) (pe_op op_mul pe_int (pv 6))) pa_nil)) pe_int) (fun _ _ => rfl)))
          (pe_slice sl_str (pv 3) (po_some (pv 4)) po_none))))))), ?_⟩
  -- the stem: letters drawn
  refine ⟨⟨_, rfl⟩, .ref b, rfl, b, c, 4, rfl, B, by decide, by decide, fun d H1 d0 d1 B1 k1 => ?_⟩
  refine ⟨d, rfl, by omega, by omega, fun D hD => ?_⟩
  have nD := B1.ne_new hD
  have hD0 : H D = none := k1.free B1 hD
  refine lc_range (lo := 0) (n := d.toNat) (fun i H2 => Bag H2 b c ∧ Kp b H H2 ∧ ∃ cs : List Nat, cs.length = i ∧ (∀ x ∈ cs, x ∈ letters.cps.toList) ∧ H2 D = some (.lst (cs.map fun x => V.str ⟨#[x]⟩)))
    ⟨B1.upd_new hD _, k1.new hD _, [], rfl, fun x hx => (nomatch hx), upd_same⟩ (fun i H2 hi ⟨B2, k2, cs, hl, hcs, hcD⟩ => ?_) (fun H2 ⟨B2, k2, cs, hl, hcs, hcD⟩ => ?_)
  · refine ⟨rfl, .ref b, rfl, .str letters, rfl, b, c, _, _, rfl, B2, .inr (.inr ⟨letters, rfl, by decide +kernel, rfl⟩), by decide +kernel, by decide +kernel, fun y H3 hy B3 k3 => ?_⟩
    obtain ⟨x, hx, rfl⟩ := List.mem_map.mp hy
    refine ⟨_, k3 _ _ hcD nD.1.symm, ?_, B3.wr nD _, (k2.trans k3).wr hD0 _, cs ++ [x], by rw [List.length_append, hl]; rfl, fun z hz => ?_, ?_⟩
    · rw [List.length_map, hl]
      exact small1000 (by omega)
    · rcases List.mem_append.mp hz with h | h
      · exact hcs z h
      · rw [List.mem_singleton.mp h]
        exact hx
    · rw [upd_same, List.map_append]
      rfl
  · have ey : (cs.map fun x => V.str ⟨#[x]⟩) = ((cs.map fun x => (⟨#[x]⟩ : Str)).map V.str) := by rw [List.map_map]; rfl
    have hlen : cs.length ≤ 3 := by omega
    have hsum : ∀ l : List Nat, ((l.map fun x => (⟨#[x]⟩ : Str)).map (·.length)).sum = l.length := by
      intro l
      induction l with
      | nil => rfl
      | cons x r ih =>
        rw [List.map_cons, List.map_cons, List.sum_cons, ih, List.length_cons]
        show 1 + r.length = _
        omega
    refine ⟨Str.empty, D, cs.map fun x => ⟨#[x]⟩, rfl, rfl, .inl (SqL.of (by rw [hcD, ey])), ?_, ?_⟩
    · rw [hsum]
      show cs.length + _ * 0 ≤ _
      omega
    generalize hst : Txt.join Str.empty (cs.map fun x => (⟨#[x]⟩ : Str)) = st
    have est : tl st = cs := by rw [← hst, glue_signs]
    have lst : st.length = cs.length := by rw [tlen, est]
    -- at, first
    refine ⟨.ref b, rfl, .str st, rfl, .str st, _, rfl, ⟨Nat.le_of_lt (small1000 (by omega)), rfl⟩, _, _, rfl, rfl, b, c, _, rfl, B2, by omega, by omega, fun a1 H3 a0 a1' B3 k3 => ?_⟩
    refine ⟨.ref b, rfl, b, c, 26, rfl, B3, by decide, by decide, fun f1 H4 f0 f1' B4 k4 => ?_⟩
    refine ⟨(by show 2 ≤ sizeLine; decide), fun t ht => ?_⟩
    refine ⟨t, _, rfl, SqT.of upd_same, rfl, _, _, rfl, _, _, rfl, rfl, ?_⟩
    have k5 : Kp b H (upd H4 t (.tup [.int a1, .int f1])) := ((k2.trans k3).trans k4).new ht _
    have B5 : Bag (upd H4 t (.tup [.int a1, .int f1])) b c := B4.upd_new ht _
    -- the names
    refine ⟨_, rfl, many, rfl, by omega, by omega, fun L hL => ?_⟩
    have nL := B5.ne_new hL
    have hL0 : H L = none := k5.free B5 hL
    refine lc_range (lo := 0) (n := many.toNat) (fun i H6 => Bag H6 b c ∧ Kp b H H6 ∧ ∃ ws : List Str, ws.length = i ∧ (∀ z ∈ ws, IsNm z) ∧ H6 L = some (.lst (ws.map V.str)))
      ⟨B5.upd_new hL _, k5.new hL _, [], rfl, fun x hx => (nomatch hx), upd_same⟩ (fun i H6 hi ⟨B6, k6, ws, hl6, hws, hcL⟩ => ?_) (fun H6 ⟨B6, k6, ws, hl6, hws, hcL⟩ => ?_)
    · have hstl : st.length ≤ sizeLine := Nat.le_of_lt (small1000 (by omega))
      have ha0 : (0 : Int) ≤ a1 := a0
      have ha1 : a1 ≤ (st.length : Int) := by omega
      have hm0 : 0 ≤ (f1 + 7 * (0 + (i : Int))) % 26 := Int.emod_nonneg _ (by decide)
      have hm1 : (f1 + 7 * (0 + (i : Int))) % 26 < 26 := Int.emod_lt_of_pos _ (by decide)
      obtain ⟨x, hx⟩ : ∃ x, atI letters.cps.toList ((f1 + 7 * (0 + (i : Int))) % 26) = some x ∧ x ∈ letters.cps.toList := by
        have hlt : ((f1 + 7 * (0 + (i : Int))) % 26).toNat < letters.cps.toList.length := by
          rw [show letters.cps.toList.length = 26 by decide +kernel]
          omega
        have e : atI letters.cps.toList ((((f1 + 7 * (0 + (i : Int))) % 26).toNat : Nat) : Int) = some letters.cps.toList[((f1 + 7 * (0 + (i : Int))) % 26).toNat] := atI_nat (by rw [List.getElem?_eq_getElem hlt])
        rw [Int.toNat_of_nonneg hm0] at e
        exact ⟨_, e, List.getElem_mem hlt⟩
      refine ⟨rfl, .str st, rfl, .int a1, rfl, a1, rfl, st, rfl, hstl, ?_⟩
      refine ⟨.str letters, rfl, .int f1, rfl, .int (0 + (i : Int)), rfl, 7, _, rfl, rfl, .inl ⟨by decide, by decide⟩, _, _, rfl, rfl, .inl ⟨_, rfl, _, 26, rfl, rfl, (by show (0 : Int) < 26; decide), ?_⟩⟩
      refine ⟨letters, _, x, rfl, rfl, by decide +kernel, hx.1, ?_⟩
      have hc1 := cutS_length st none (some a1)
      have hc2 := cutS_length st (some a1) none
      have h1000 : (1000 : Nat) ≤ sizeLine := by decide
      have hx1 : (⟨#[x]⟩ : Str).length = 1 := rfl
      refine ⟨_, _, rfl, rfl, by rw [hx1]; omega, ?_⟩
      refine ⟨.str st, rfl, .int a1, rfl, a1, rfl, st, rfl, hstl, ?_⟩
      have hl1 : (cutS st none (some a1) ++ (⟨#[x]⟩ : Str)).length = (cutS st none (some a1)).length + 1 := by rw [Str.length_append, hx1]
      refine ⟨_, _, rfl, rfl, by rw [hl1]; omega, ?_⟩
      have hnm : IsNm (cutS st none (some a1) ++ (⟨#[x]⟩ : Str) ++ cutS st (some a1) none) := by
        have e : tl (cutS st none (some a1) ++ (⟨#[x]⟩ : Str) ++ cutS st (some a1) none) = cs.take a1.toNat ++ [x] ++ cs.drop a1.toNat := by
          rw [tl_append, tl_append, tl_cut_to st a1 ha0 ha1, tl_cut_from st a1 ha0 ha1, est]
        have el : (cutS st none (some a1) ++ (⟨#[x]⟩ : Str) ++ cutS st (some a1) none).length = cs.length + 1 := by
          rw [tlen, e, List.length_append, List.length_append, List.length_take, List.length_drop]
          show min a1.toNat cs.length + 1 + (cs.length - a1.toNat) = cs.length + 1
          omega
        refine ⟨fun y hy => ?_, by omega, by omega⟩
        rw [e] at hy
        rcases List.mem_append.mp hy with hy | hy
        · rcases List.mem_append.mp hy with hy | hy
          · exact hcs y (List.mem_of_mem_take hy)
          · rw [List.mem_singleton.mp hy]
            exact hx.2
        · exact hcs y (List.mem_of_mem_drop hy)
      refine ⟨_, hcL, ?_, B6.wr nL _, k6.wr hL0 _, ws ++ [cutS st none (some a1) ++ (⟨#[x]⟩ : Str) ++ cutS st (some a1) none], by rw [List.length_append, hl6]; rfl, fun z hz => ?_, ?_⟩
      · rw [List.length_map, hl6]
        exact small1000 (by omega)
      · rcases List.mem_append.mp hz with h | h
        · exact hws z h
        · rw [List.mem_singleton.mp h]
          exact hnm
      · rw [upd_same, List.map_append]
        rfl
    · exact q L ws H6 (by omega) hws B6 k6 hL0 hcL
/-! ### a target whose last name has a star -/
section
open PySem.Spec PyProof.Rows
variable {prog : Program} {w : World} {A : Around} {E : Value → Shared → Prop} {s : Shared}
/-- a walk that begins further on -/
theorem walks_from {I : Addr} {fp wr : List Addr} {G : Array GenState → Array GenState → Prop} {n : Nat} {P : Nat → Value → Prop} {St : Nat → Shared → Prop} (k : Nat) (W : WalksS prog w A I fp wr G (n + k) P St) :
    WalksS prog w A I fp wr G n (fun i => P (i + k)) (fun i => St (i + k)) where
  sub := W.sub
  grefl := W.grefl
  gtrans := W.gtrans
  frame := fun i => W.frame (i + k)
  item := fun i s Q E hi st hQ => W.item (i + k) s Q E (by omega) st fun v s' p st' => hQ v s' p (by rw [show i + 1 + k = i + k + 1 by omega]; exact st')
  done := fun s Q E st hQ => W.done s Q E st hQ
  self := fun i => W.self (i + k)
theorem itemsOf_list {items acc : Array Value} {k n : Nat} (hn : n + k = items.size) (h : ItemsOf (fun i v => items[i + k]? = some v) acc n) : acc.toList = items.toList.drop k := by
  obtain ⟨h1, h2⟩ := h
  refine List.ext_getElem? fun j => ?_
  rw [List.getElem?_drop, Array.getElem?_toList, Array.getElem?_toList]
  cases e : acc[j]? with
  | some v =>
    rw [Nat.add_comm k j]
    exact (h2 j v e).symm
  | none =>
    have hj : acc.size ≤ j := Array.getElem?_eq_none_iff.mp e
    exact (Array.getElem?_eq_none_iff.mpr (by omega)).symm
theorem unpack_star {t : Addr} {items : Array Value} {i : Nat} {Q : List Value → Shared → Prop} (hh : A.handled = none) (ht : IsTup s.heap t items) (hi : i ≤ items.size) (hsz : items.size ≤ sizeLine)
    (hQ : ∀ (h' : Heap) (tk : Nat) (D : Addr), (∀ b o, s.heap.get? b = some o → h'.get? b = some o) → s.heap.get? D = none → h'.get? D = some { cls := .type "list", data := .seq (items.toList.drop i).toArray } → Q (items.toList.take i ++ [.ref D]) { s with heap := h', toks := tk }) :
    wpAny (model prog w) A (unpackItems (.ref t) (i + 1) (some i)) Q E s := by
  have hlt : t ≠ s.heap.objs.size := by obtain ⟨o, ho, _⟩ := ht; exact Nat.ne_of_lt (Heap.lt_size ho)
  obtain ⟨n, hn⟩ : ∃ n, n + i = items.size := ⟨items.size - i, by omega⟩
  unfold unpackItems
  refine wpAny_bind ?_
  unfold notIterableAtAll
  refine wpAny_bind (wpAny_specialOf ht.typeIs slot_tuple_iter.lookup ?_)
  refine wpAny_pure ?_
  simp only [Bool.false_eq_true, if_false]
  refine wpAny_bind (wpAny_holding (iter_tuple ht ?_))
  refine wpAny_bind (wpAny_holding (draw_tuple hlt i 0 _ _ ⟨_, Heap.get?_push_size _ rfl, rfl, rfl⟩ (ht.push _) (by omega) fun h₁ hit₁ hs₁ => ?_))
  rw [List.drop_zero]
  have hl1 : (items.toList.take i).length = i := by rw [List.length_take, Array.length_toList]; omega
  rw [if_neg (by rw [hl1]; omega)]
  have ht₁ : IsTup h₁ t items := (ht.push _).extBut hs₁.extBut hlt
  have hsi : s.heap.objs.size < h₁.objs.size := by
    obtain ⟨o, ho, _⟩ := hit₁
    exact Heap.lt_size ho
  have W0 := (Walks.tuple (prog := prog) (w := w) (A := A.in1) hh s.heap.objs.size t hlt items).toS
  rw [← hn] at W0
  have W1 := walks_from i W0
  have hit2 : h₁.IsTupleIter s.heap.objs.size t (0 + i) := by
    have e : (0 : Nat) + i = i := by omega
    rw [e] at hit₁ ⊢
    exact hit₁
  have ht2 : h₁.IsTuple t items := ht₁
  refine wpAny_bind (wpAny_holding (wpAny_collect_iter (.inr (.inr (.inr rfl))) W1 (fun _ _ st => let ⟨o, ho, hc, _⟩ := st.1; ⟨o, ho, hc⟩) ⟨hit2, ht2⟩ (fun b hb => ?_) (List.mem_cons_self ..) (fun s' acc hm hacc => ?_) (by omega)))
  · rcases List.mem_cons.mp hb with e | hb
    · rw [e]; exact hsi
    · rw [List.mem_singleton.mp hb]
      obtain ⟨o, ho, _⟩ := ht2
      exact Heap.lt_size ho
  · have ea : acc.toList = items.toList.drop i := itemsOf_list hn hacc
    rw [ea]
    have e0 : i + 1 - 1 - i = 0 := by omega
    rw [e0]
    show wpAny _ _ (if (List.drop i items.toList).length < 0 then _ else _) _ _ _
    rw [if_neg (Nat.not_lt_zero _)]
    have e1 : (List.drop i items.toList).length - 0 = (List.drop i items.toList).length := Nat.sub_zero _
    have e2 : List.take ((List.drop i items.toList).length - 0) (List.drop i items.toList) = List.drop i items.toList := by rw [e1, List.take_length]
    have e3 : List.drop ((List.drop i items.toList).length - 0) (List.drop i items.toList) = [] := by rw [e1, List.drop_length]
    rw [e2, e3]
    have hlen : (List.drop i items.toList).length ≤ sizeLine := by rw [List.length_drop, Array.length_toList]; omega
    refine wpAny_bind (wpAny_newObj_type ?_ ?_)
    · refine wpAny_pure ?_
      rw [List.append_nil, Moved.eq_with hm]
      have k0 : ∀ b o, s.heap.get? b = some o → s'.heap.get? b = some o := fun b o e => by
        have nb : b ≠ s.heap.objs.size := Nat.ne_of_lt (Heap.lt_size e)
        exact hm.heap b o (fun hb => nb (List.mem_singleton.mp hb)) (hs₁.extBut b o nb (Heap.get?_push_of_some _ e))
      refine hQ (s'.heap.push _) s'.toks s'.heap.objs.size (fun b o e => Heap.get?_push_of_some _ (k0 b o e)) ?_ (Heap.get?_push_size _ rfl)
      cases e : s.heap.get? s'.heap.objs.size with
      | none => rfl
      | some o => exact absurd (Heap.lt_size (k0 _ o e)) (Nat.lt_irrefl _)
    · show (List.drop i items.toList).toArray.size ≤ sizeLine
      rw [List.size_toArray]
      exact hlen
end
section
open PySem.Spec PyProof.Rows
variable {X : Cx}
/-- the last of several targets, with a star -/
theorem pgs_star {e : Expr} {p : Pos} {g : TG} (h1 : PG X e g) : PGs X [.Starred e p] (gCons g gNil) := by
  refine ⟨fun pins s σ H vs us Q I r h => ?_⟩
  obtain ⟨v, vr, e1, h⟩ := h
  subst e1
  cases r with
  | cons r rr =>
    show wpAny _ _ (assignInOrder [assign e X.env] _) _ _ _
    refine assignInOrder_cons (thn (h1.run pins s σ H _ _ _ I r h) fun _ s1 ⟨σ1, H1, I1, q1⟩ => ?_)
    obtain ⟨rfl, q1⟩ := q1
    cases rr
    exact assignInOrder_nil ⟨σ1, H1, I1, q1⟩
/-- a, b, *c = a tuple: n names ahead of the star -/
def gStar (K : PySem.W.Frag) (n : Nat) (t : TGs) : TG := fun v σ H Q => ∃ a xs, v = .ref a ∧ SqT K H a xs ∧ n ≤ xs.length ∧ ∀ p, H p = none → t (xs.take n ++ [.ref p]) σ (upd H p (.lst (xs.drop n))) Q
theorem pg_star {es : List Expr} {k : Nat} {pos : Pos} {t : TGs} {n : Nat} (hc : X.calm = true) (h : PGs X es t)
    (hn : (assignEach es X.env).length = n + 1 := by rfl) (hst : (assignEach es X.env).findIdx? (·.1) = some n := by rfl) : PG X (.Tuple es k pos) (gStar X.K n t) := by
  refine ⟨fun pins s σ H v u Q I r hw => ?_⟩
  obtain ⟨a, xs, e1, hq, hl, hw⟩ := hw
  subst e1
  cases r
  obtain ⟨its, rv, ht, hz⟩ := I.tuple hq
  have hlen := rv.length
  rw [PyProof.Rows.assign_Tuple]
  refine wpAny_bind (wpAny_standAt ?_)
  unfold unpack
  rw [hn, hst]
  refine wpAny_bind (wpAny_holding (unpack_star (I.ok.hd hc) ht (by rw [List.size_toArray]; omega) (by rw [List.size_toArray]; omega) fun h' tk D k0 hD hL => ?_))
  have hn0 : H D = none := I.hok.gone hD
  have e2 : its.toArray.toList = its := List.toList_toArray ..
  rw [e2] at hL ⊢
  have r2 : Vals (xs.drop n) (its.drop n) := rv.drop n
  have I1 : Inv X pins σ (upd H D (.lst (xs.drop n))) { s with heap := h', toks := tk } := I.laidN k0 hD hn0 ⟨by rw [List.length_drop]; omega, its.drop n, _, r2, hL⟩
  exact h.run pins _ σ _ (xs.take n ++ [.ref D]) _ Q I1 ((rv.take n).append (show Vals [V.ref D] [Value.ref D] from .cons (show RelV (V.ref D) (Value.ref D) from rfl) .nil)) (hw D hn0)
end
/-! ### enumerate of a tuple -/
section
open PySem.Spec PyProof.Rows
theorem meets_enum1 {v : Value} {o : Obj} {Hs : Heap → Prop} (Bg : Begins v o Hs) :
    Meets (Builtin.«enumerate.__new__» ⟨[.type "enumerate", v], []⟩) (fun _ R s => Hs s.heap ∧
      R (.ok (.ret (.ref (s.heap.push o).objs.size))) { s with heap := (s.heap.push o).push { cls := .type "enumerate", data := .fields #[.none, .bool false, .ref s.heap.objs.size, rawInt 0, .none, .none] } }) :=
  .of_wp fun prog w A R s h => by
    obtain ⟨hp, g, d, tk, os⟩ := s
    obtain ⟨h1, h⟩ := h
    have hsub := sub_enumerate
    have start : ∀ {A' : Around} {E : Value → Shared → Prop} {Q : Value → Shared → Prop}, Q (.ref hp.objs.size) ⟨hp.push o, g, d, tk, os⟩ → wpAny (model prog w) A' (pyIter v) Q E ⟨hp, g, d, tk, os⟩ :=
      fun q => Bg.iter prog w _ _ ⟨hp, g, d, tk, os⟩ _ h1 q
    wp_walk using start
    refine wpAny_stack_any fun st => wpAny_pure ?_
    split
    · rename_i c _ _ _ _ _
      cases (c == Value.type "enumerate") <;> (wp_walk using start; exact ⟨_, rfl, h⟩)
    · wp_walk using start
      exact ⟨_, rfl, h⟩
variable {prog : Program} {w : World} {A : Around} {E : Value → Shared → Prop} {s : Shared}
theorem call_enumT {t : Addr} {items : Array Value} {Q : Value → Shared → Prop} (ht : s.heap.IsTuple t items)
    (h : ∀ h', IsEnum h' (s.heap.objs.size + 1) s.heap.objs.size 0 .none → h'.IsTupleIter s.heap.objs.size t 0 →
      (∀ b o, s.heap.get? b = some o → h'.get? b = some o) → Q (.ref (s.heap.objs.size + 1)) { s with heap := h' }) : wpAny (model prog w) A (call (.type "enumerate") [.ref t]) Q E s := by
  refine callType_new F.called_enumerate (by decide) (F.typeCall_enumerate_1 _) (F.newCall_enumerate_1 _) (fun obj => F.args_object_init_2 obj _) F.entry_enumerate_new
    (meets_enum1 (begins_tuple t items)) ⟨ht, ?_⟩
  generalize ho : ({ cls := .type "tuple_iterator", data := .fields #[.ref t, .int 0 0] } : Obj) = oi
  have hf : oi.isFreed = false := by rw [← ho]; rfl
  have hz : (s.heap.push oi).objs.size = s.heap.objs.size + 1 := Heap.size_push ..
  show _ ∧ _
  rw [hz]
  have hit := Heap.get?_push_size s.heap (o := oi) hf
  have he := Heap.get?_push_size (s.heap.push oi) (o := { cls := .type "enumerate", data := .fields #[.none, .bool false, .ref s.heap.objs.size, rawInt 0, .none, .none] }) rfl
  rw [hz] at he
  exact ⟨⟨_, he, rfl⟩, h _ he ⟨_, Heap.get?_push_of_some _ hit, by rw [← ho], by rw [← ho]; rfl⟩ fun b o x => Heap.get?_push_of_some _ (Heap.get?_push_of_some _ x)⟩
end
/-- the tuple at a, each item in a new pair with its number -/
def IteT (K : PySem.W.Frag) (a : Addr) : It where
  go := fun i H => ∃ (xs : List V) (x : V), SqT K H a xs ∧ xs[i]? = some x
  yld := fun i H v H' => ∃ T x, v = .ref T ∧ H T = none ∧ H' = upd H T (.tup [.int (i : Nat), x]) ∧ ∀ xs, SqT K H a xs → xs[i]? = some x
  stop := fun i H => ∃ xs : List V, SqT K H a xs ∧ xs.length ≤ i
open PySem.Spec PyProof.Rows in
theorem turn_enumT {P : Program} {w : World} {K : PySem.W.Frag} {elts : List Expr} {kk : Nat} {tpos : Pos} (a e it : Addr) :
    Turn P w K (.Tuple elts kk tpos) (IteT K a) [e, it] e (fun i h => (∃ old, IsEnum h e it ((i : Nat) : Int) old) ∧ h.IsTupleIter it a i ∧ e ≠ it ∧ a ≠ it ∧ a ≠ e) where
  mem := List.mem_cons_self ..
  obj := fun i h st b hb => by
    obtain ⟨⟨old, he⟩, ⟨o, ho, hc, hd⟩, _⟩ := st
    rcases List.mem_cons.mp hb with z | hb
    · subst z
      refine ⟨_, he, fun v q => ?_⟩
      cases q
    · exact ⟨o, by rw [List.mem_singleton.mp hb]; exact ho, fun v q => by rw [hd] at q; cases q⟩
  keep := fun i h h' st k => by
    obtain ⟨⟨old, he⟩, hi, hne⟩ := st
    exact ⟨⟨old, k e (List.mem_cons_self ..) _ he⟩, hi.at fun o q => k it (List.mem_cons_of_mem _ (List.mem_singleton.mpr rfl)) o q, hne⟩
  item := by
    intro X hP hw hK hc i pins s σ H E I hf st hg
    subst hP hw hK
    obtain ⟨⟨old, he⟩, hit, hne, nai, nae⟩ := st
    obtain ⟨xs, x, hq, hx⟩ := hg
    obtain ⟨its, rv, ht, hz⟩ := I.tuple hq
    obtain ⟨u, hu, ru⟩ := rv.get hx
    have hil : i < its.toArray.size := by
      rw [List.size_toArray]
      exact (List.getElem?_eq_some_iff.mp hu).1
    have hel : e < s.heap.objs.size := Heap.lt_size he
    have hitl : it < s.heap.objs.size := by
      obtain ⟨_, q, _⟩ := hit
      exact Heap.lt_size q
    have D := Draws.tuple (prog := X.prog) (w := X.w) (A := X.A.in1) (I.ok.hd hc) it a nai its.toArray
    refine wpAny_pyNext_enum_itemD D he ⟨hit, ht⟩ hil hne (fun hm => ?_) fun v h' tk hv ho st' hT hsz hk => ?_
    · rcases List.mem_cons.mp hm with z | hm
      · exact hne z
      · exact nae (List.mem_singleton.mp hm).symm
    have ev : v = u := by
      have q : its.toArray[i]? = some u := by simpa using hu
      rw [hv] at q
      exact Option.some.inj q
    subst ev
    refine ⟨_, rfl, wpAny_letOwnedTupleGo_enum (s := { s with heap := h', toks := tk + 1 }) ho fun h2 he2 sb => ?_⟩
    have back : ∀ b o, b ≠ e → h'.get? b = some o → h2.get? b = some o := fun b o nb q => (sb.2 b nb).trans q
    have new : ObjOk X.prog X.w (upd H s.heap.objs.size (.tup [.int (i : Nat), x])) h2 s.heap.objs.size (.tup [.int (i : Nat), x]) :=
      ⟨(by show 2 ≤ sizeLine; decide), [.int i tk, v], .cons ⟨_, rfl⟩ (.cons ru .nil), ⟨_, back _ _ (Nat.ne_of_gt hel) hT, rfl, _, rfl⟩⟩
    have keepO : ∀ b ob, b ∉ [e, it] → s.heap.get? b = some ob → h2.get? b = some ob := fun b ob hb q => by
      have n1 : b ≠ e := fun z => hb (by simp [z])
      have n2 : b ≠ it := fun z => hb (by simp [z])
      exact back b ob n1 (hk b ob n1 n2 q)
    have I1 : Inv X pins σ (upd H s.heap.objs.size (.tup [.int (i : Nat), x])) { s with heap := h2, toks := tk + 1 } := I.turnedNew (ch := [e, it]) keepO hf (Nat.le_refl _) new
    refine ⟨.ref s.heap.objs.size, _, I1, rfl, ⟨_, x, rfl, I.hok.fresh (Nat.le_refl _), rfl, fun ys hy => by rw [I.tuple_inj hy hq]; exact hx⟩, ⟨⟨v, ?_⟩, st'.1.at fun o q => back it o hne.symm q, hne, nai, nae⟩, fun b hb => ?_⟩
    · have e1 : ((i + 1 : Nat) : Int) = (i : Int) + 1 := by omega
      rw [e1]
      exact he2
    · have hb' : b < s.heap.objs.size := by
        rcases List.mem_cons.mp hb with z | hb
        · rw [z]; exact hel
        · rw [List.mem_singleton.mp hb]; exact hitl
      rw [upd_ne (Nat.ne_of_lt hb')]
      exact (hf b hb).1
  done := by
    intro X hP hw hK hc i pins s σ H E I hf st hg
    subst hP hw hK
    obtain ⟨⟨old, he⟩, hit, hne, nai, nae⟩ := st
    obtain ⟨xs, hq, hx⟩ := hg
    obtain ⟨its, rv, ht, hz⟩ := I.tuple hq
    obtain ⟨f0, f1, f2, f3, f4, f5⟩ := hf it (List.mem_cons_of_mem _ (List.mem_singleton.mpr rfl))
    have hend : its.toArray[i]? = none := Array.getElem?_eq_none_iff.mpr (by rw [List.size_toArray, ← rv.length]; exact hx)
    have D : Draws X.prog X.w X.A.in1 it [it, a] 0 (fun _ _ => False) (fun _ h => h.IsTupleIter it a i ∧ h.IsTuple a its.toArray) := {
      live := fun _ _ st => let ⟨o, ho, _⟩ := st.1; ⟨o, ho⟩
      frame := fun _ _ _ st hk => ⟨st.1.at fun o q => hk it (List.mem_cons_self ..) o q, st.2.at fun o q => hk a (List.mem_cons_of_mem _ (List.mem_singleton.mpr rfl)) o q⟩
      item := fun _ _ _ _ hi => absurd hi (Nat.not_lt_zero _)
      done := fun s2 Q2 E2 st hE => wpAny_nextOf_tuple_end (I.ok.hd hc) st.1 st.2 hend hE }
    exact wpAny_pyNext_enum_endD D he ⟨hit, ht⟩ fun h' eb => ⟨rfl, I.turned (t' := s.toks) (fun b o hb q => eb b o hb q) f0 f1 f3 f4 f5⟩
  self := fun A i s Q E st h => wpAny_pyIter_enum st.1.choose_spec h
def iEnumT (K : PySem.W.Frag) (ta : TA) : TI := fun σ H R => ta σ H fun vs H1 => ∃ a xs, vs = [.ref a] ∧ SqT K H1 a xs ∧ R (IteT K a) H1
open PySem.Spec PyProof.Rows in
theorem pi_enumT {X : Cx} {e : Expr} {ta : TA} {p pos tpos : Pos} {elts : List Expr} {kk : Nat} (hg : Gl X "enumerate") (hm : X.mg "enumerate" = none) (ha : PA X [e] ta) (hs : starEach [e] X.env = [(false, eval e X.env)] := by rfl) :
    PI X (.Tuple elts kk tpos) (.Call (.Name "enumerate" p) [e] [] pos) (iEnumT X.K ta) := by
  refine ⟨fun pins s σ H R I h => ?_⟩
  refine Call_ (ld_blt I hg hm boot_enumerate (PyProof.Rows.callWith_type1 (thn (ha.run pos pins s σ H _ I h) fun us s1 ⟨vs, H1, I1, r1, a, xs, ex, hq, q⟩ => ?_) hs rfl))
  subst ex
  obtain ⟨u, rfl, ru⟩ := vals1 r1
  cases ru
  obtain ⟨its, rv, ht, hz⟩ := I1.tuple hq
  have hal : a < s1.heap.objs.size := by
    obtain ⟨o, ho, _⟩ := id ht
    exact Heap.lt_size ho
  refine call_enumT (show s1.heap.IsTuple a its.toArray from ht) fun h' he hit hk => wpAny_pyIter_enum he ?_
  have I2 : Inv X pins σ H1 { s1 with heap := h' } := I1.kept (t' := s1.toks) hk
  refine ⟨s1.heap.objs.size + 1, [s1.heap.objs.size + 1, s1.heap.objs.size], _, _, H1, rfl, I2, turn_enumT a (s1.heap.objs.size + 1) s1.heap.objs.size, ⟨⟨.none, he⟩, hit, Nat.succ_ne_self _, Nat.ne_of_lt hal, Nat.ne_of_lt (Nat.lt_succ_of_lt hal)⟩, fun b hb => ?_, q⟩
  have hle : s1.heap.objs.size ≤ b := by
    rcases List.mem_cons.mp hb with z | hb
    · rw [z]; exact Nat.le_succ _
    · rw [List.mem_singleton.mp hb]; exact Nat.le_refl _
  exact I1.fpOk hle (I1.hok.fresh hle)
/-- a loop over enumerate of a tuple -/
theorem for_enumT {K : PySem.W.Frag} {a : Addr} {xs : List V} {g : TG} {tb : TS} {D : Ends} {σ : L2.St} {H : Hp} (Pv : Nat → L2.St → Hp → Prop) (h0 : Pv 0 σ H) (hq : ∀ i σ H, Pv i σ H → SqT K H a xs)
    (hs : ∀ (i : Nat) (x : V) (T : Addr) (σ : L2.St) (H : Hp), xs[i]? = some x → Pv i σ H → H T = none → g (.ref T) σ (upd H T (.tup [.int (i : Nat), x])) fun σ2 H2 => tb { D with nx := Pv (i + 1), ct := Pv (i + 1), bk := D.nx } σ2 H2) (hd : ∀ σ H, Pv xs.length σ H → D.nx σ H) :
    ∃ W : Nat → Nat → L2.St → Hp → Prop, (∃ m, W 0 m σ H) ∧ ∀ i m σ H, W i m σ H →
      ((IteT K a).stop i H ∧ D.nx σ H) ∨ ((IteT K a).go i H ∧ ∃ N : L2.St → Hp → Prop, (∀ σ' H', N σ' H' → ∃ m', m' < m ∧ W (i + 1) m' σ' H') ∧ ∀ v H', (IteT K a).yld i H v H' → g v σ H' fun σ2 H2 => tb { D with nx := N, ct := N, bk := D.nx } σ2 H2) := by
  refine ⟨fun i m σ H => m + i = xs.length ∧ Pv i σ H, ⟨xs.length, rfl, h0⟩, ?_⟩
  rintro i m σ H ⟨hm, p⟩
  have qx := hq i σ H p
  by_cases hlt : i < xs.length
  · refine .inr ⟨⟨xs, _, qx, List.getElem?_eq_getElem hlt⟩, Pv (i + 1), fun σ' H' p' => ⟨m - 1, by omega, by omega, p'⟩, ?_⟩
    rintro v H' ⟨T, x, rfl, hT, rfl, f⟩
    exact hs i x T σ H (f xs qx) p hT
  · have e : i = xs.length := by omega
    subst e
    exact .inl ⟨⟨xs, qx, Nat.le_refl _⟩, hd σ H p⟩
abbrev sIsName : Stmt := top 18
abbrev sIsInteger : Stmt := top 19
abbrev sIsNumber : Stmt := top 20
def nameB (z : Str) : Bool := decide ((1 : Int) ≤ (z.length : Int)) && decide ((z.length : Int) ≤ 4) && lowB z
def spName (K : PySem.W.Frag) : Sp := fun vs H Q _ => ∃ x : V, vs = [x] ∧ ((∃ z : Str, x = .str z ∧ z.length ≤ 1000 ∧ ∀ H', Same H H' → Q (.bl (nameB z)) H') ∨
  (∃ t : String, TyX K H x (.type t) ∧ kitB t "str" = some false ∧ ∀ H', Same H H' → Q (.bl false) H'))
structure NameTxt (mg : Str → Option Value) : Prop where
  isi : mg "isinstance" = none
  str : mg "str" = none
  int : mg "int" = none
  bool : mg "bool" = none
  len : mg "len" = none
  all : mg "all" = none
  low : ∃ t, mg "LETTERS" = some (.str letters t)
  most : ∃ t, mg "LONGEST_NAME" = some (.int 4 t)
theorem scName : FnScope ["value", "letter"] ["value"] (defScope sIsName) := ⟨rfl, rfl, rfl, by decide +kernel, rfl, by decide +kernel, by decide +kernel⟩
theorem ok_isname {f : Addr} {fd : FuncData} (F : Fun K "is_name" "is_name" sIsName f fd) (T : NameTxt mg) : FnOk P w K mg base CX0 1 f fd ["value"] (spName K) := by
  refine F.ok scName (fun vs H Q E h => ?_) (fun cdv A outer s H vs Q E hr h => ?_)
  · obtain ⟨x, rfl, _⟩ := h
    rfl
  obtain ⟨x, rfl, h⟩ := h
  obtain ⟨tl, mlow⟩ := T.low
  obtain ⟨tm, mmost⟩ := T.most
  refine ⟨_, pss_cons (ps_if (PW.pt (pw_or (pt_not (pt_val (pe_callB call_isi (by rfl) T.isi (by decide +kernel) (pa_cons (pv 0) (pa_cons (pe_bltn (v := .ty "str") (by rfl) T.str (by decide +kernel) rfl) pa_nil)))))
        (pw_or1 (pt_not (pt_chain op_le op_le pe_int (pe_callB call_len (by rfl) T.len PySem.boot_len (pa_cons (pv 0) pa_nil)) (pe_glob (v := .int 4) (by rfl) mmost ⟨_, rfl⟩))))))
      (pss_one (ps_ret pe_bl)) pss_nil)
    (pss_one (ps_ret (pe_callB (cr_all rfl) (by rfl) T.all (by decide +kernel) (pa_cons
      (pe_lc (own := [("letter", 1)]) (g := gName 1) rfl scName.nd (pi_str (pv 0)) (blkOk_by (own := [("letter", 1)]) (N := ["value", "letter"]) (sc := defScope sIsName) (by decide +kernel))
        (fun _ _ _ _ _ => pg_name (i := 1) scName.nd rfl (Or.inl rfl) (Or.inr rfl)) (fun _ _ _ _ _ => pts_nil)
        (fun _ _ _ _ _ => pe_cmpR op_in_sign (pv 1) (pe_glob (v := .str letters) (by rfl) mlow ⟨_, rfl⟩) rfl)) pa_nil)))), ?_⟩
  rcases h with ⟨z, rfl, hz, q⟩ | ⟨t, ty, hk, q⟩
  · have hzl : z.length ≤ sizeLine := Nat.le_of_lt (small1000 hz)
    refine ⟨_, rfl, _, _, _, _, true, rfl, .ty _, .base (.str z), kit_ty (by decide +kernel), _, rfl, ?_⟩
    refine iteF ?_
    refine ⟨_, rfl, _, z.length, rfl, ⟨hzl, rfl⟩, 1, _, rfl, rfl, _, rfl, ?_⟩
    refine ite2 (fun h1 => ?_) (fun h1 => ?_)
    · refine ⟨_, 4, rfl, rfl, _, rfl, ?_⟩
      cases h2 : decide ((z.length : Int) ≤ 4) with
      | false =>
        refine iteT ?_
        have e : nameB z = false := by unfold nameB; rw [h2, Bool.and_false, Bool.false_and]
        rw [← e]
        exact q _ (Same.refl H)
      | true =>
        refine iteF ?_
        refine ⟨_, rfl, z, rfl, fun D hD => ?_⟩
        have s1 := same_upd hD (.lst [])
        refine lc_str (fun i H2 => Same H H2 ∧ H2 D = some (.lst (((z.cps.toList.take i).map fun c => decide (c ∈ letters.cps.toList)).map V.bl))) ⟨s1, upd_same⟩ (fun i c H2 hc ⟨s2, hD2⟩ => ?_) (fun H2 ⟨s2, hD2⟩ => ?_)
        · refine ⟨rfl, _, rfl, c, letters, rfl, rfl, _, hD2, ?_, fun a o e => ?_, ?_⟩
          · rw [List.length_map, List.length_map, List.length_take]
            have : z.cps.toList.length = z.length := (str_len z).symm
            exact Nat.lt_of_le_of_lt (Nat.min_le_right _ _) (by rw [this]; exact small1000 hz)
          · rw [upd_ne (ne_of_none e hD)]
            exact s2 _ _ e
          · rw [upd_same, kSq _ hc, List.map_append]
            rfl
        · rw [List.take_length] at hD2
          refine ⟨D, _, rfl, SqL.of hD2, ?_⟩
          have e : nameB z = ((z.cps.toList.map fun c => decide (c ∈ letters.cps.toList)).all id) := by
            have h1' : decide ((1 : Int) ≤ (z.length : Int)) = true := h1
            unfold nameB lowB
            rw [h2, h1', List.all_map]
            rfl
          rw [← e]
          exact q _ s2
    · have h1' : decide ((1 : Int) ≤ (z.length : Int)) = false := Bool.eq_false_iff.mpr h1
      refine ⟨_, rfl, iteT ?_⟩
      have e : nameB z = false := by unfold nameB; rw [h1', Bool.false_and, Bool.false_and]
      rw [← e]
      exact q _ (Same.refl H)
  · refine ⟨_, rfl, _, _, _, _, false, rfl, .ty _, ty, kit_ty hk, _, rfl, ?_⟩
    refine iteT (iteT ?_)
    exact q _ (Same.refl H)
def spInteger (K : PySem.W.Frag) : Sp := fun vs H Q _ => ∃ (x : V) (t : String) (bi bb : Bool), vs = [x] ∧ TyX K H x (.type t) ∧ kitB t "int" = some bi ∧ kitB t "bool" = some bb ∧ Q (.bl (bi && !bb)) H
theorem scInteger : FnScope ["value"] ["value"] (defScope sIsInteger) := ⟨rfl, rfl, rfl, by decide +kernel, rfl, by decide +kernel, by decide +kernel⟩
theorem ok_isinteger {f : Addr} {fd : FuncData} (F : Fun K "is_integer" "is_integer" sIsInteger f fd) (T : NameTxt mg) : FnOk P w K mg base CX0 1 f fd ["value"] (spInteger K) := by
  refine F.ok scInteger (fun vs H Q E h => ?_) (fun cdv A outer s H vs Q E hr h => ?_)
  · obtain ⟨x, t, bi, bb, rfl, _⟩ := h
    rfl
  obtain ⟨x, t, bi, bb, rfl, ty, h1, h2, q⟩ := h
  refine ⟨_, pss_one (ps_ret (pe_and (pe_callB call_isi (by rfl) T.isi (by decide +kernel) (pa_cons (pv 0) (pa_cons (pe_bltn (v := .ty "int") (by rfl) T.int (by decide +kernel) rfl) pa_nil)))
    (pe_one (pe_not (pe_callB call_isi (by rfl) T.isi (by decide +kernel) (pa_cons (pv 0) (pa_cons (pe_bltn (v := .ty "bool") (by rfl) T.bool (by decide +kernel) rfl) pa_nil))))))), ?_⟩
  refine ⟨_, rfl, _, _, _, _, bi, rfl, .ty _, ty, kit_ty h1, _, rfl, ?_⟩
  cases bi with
  | true =>
    refine iteT ?_
    exact ⟨_, rfl, _, _, _, _, bb, rfl, .ty _, ty, kit_ty h2, _, rfl, q⟩
  | false => exact iteF q
def spNumber (K : PySem.W.Frag) : Sp := fun vs H Q _ => ∃ (x : V) (lo hi : Int), vs = [x, .int lo, .int hi] ∧ ((∃ i, x = .int i ∧ Q (.bl (decide (lo ≤ i) && decide (i ≤ hi))) H) ∨
  (∃ (t : String) (bi bb : Bool), TyX K H x (.type t) ∧ kitB t "int" = some bi ∧ kitB t "bool" = some bb ∧ (bi && !bb) = false ∧ Q (.bl false) H))
theorem scNumber : FnScope ["value", "least", "most"] ["value", "least", "most"] (defScope sIsNumber) := ⟨rfl, rfl, rfl, by decide +kernel, rfl, by decide +kernel, by decide +kernel⟩
theorem ok_isnumber {f g : Addr} {fd gd : FuncData} (F : Fun K "is_number" "is_number" sIsNumber f fd) (G : FnOk P w K mg base CX0 1 g gd ["value"] (spInteger K)) (bG : Binds K gd ["value"] []) (kG : PySem.W.keepIn K (.ref g) = true) (mG : mg "is_integer" = some (.ref g)) :
    FnOk P w K mg base CX0 2 f fd ["value", "least", "most"] (spNumber K) := by
  refine F.ok scNumber (fun vs H Q E h => ?_) (fun cdv A outer s H vs Q E hr h => ?_)
  · obtain ⟨x, lo, hi, rfl, _⟩ := h
    rfl
  obtain ⟨x, lo, hi, rfl, h⟩ := h
  refine ⟨_, pss_one (ps_ret (pe_and (pe_call G hr (by rfl) mG kG bG .nil pass0 (pa_cons (pv 0) pa_nil)) (pe_one (pe_chain op_le op_le (pv 1) (pv 0) (pv 2))))), ?_⟩
  rcases h with ⟨i, rfl, q⟩ | ⟨t, bi, bb, ty, h1, h2, h3, q⟩
  · refine ⟨_, rfl, _, "int", true, false, rfl, .base (.int i), by decide +kernel, by decide +kernel, _, rfl, iteT ?_⟩
    refine ⟨_, rfl, _, rfl, lo, i, rfl, rfl, _, rfl, ?_⟩
    cases h : decide (lo ≤ i) with
    | true =>
      rw [h, Bool.true_and] at q
      exact iteT ⟨_, rfl, i, hi, rfl, rfl, q⟩
    | false =>
      rw [h, Bool.false_and] at q
      exact iteF q
  · refine ⟨_, rfl, _, t, bi, bb, rfl, ty, h1, h2, _, rfl, ?_⟩
    rw [h3]
    exact iteF q
/-! ### parts, their words -/
structure Tm where
  n : Int
  d : Int
  a : Str
inductive Pt where
  | flat (k w : Str) (es : List Str)
  | mix (w : Str) (ts : List Tm)
  | use (w p : Str) (es : List Str)
/-- place by place -/
def All2 {α β : Type} (R : α → β → Prop) (xs : List α) (ys : List β) : Prop := xs.length = ys.length ∧ ∀ (i : Nat) (x : α) (y : β), xs[i]? = some x → ys[i]? = some y → R x y
theorem All2.mono {α β : Type} {R S : α → β → Prop} {xs : List α} {ys : List β} (h : All2 R xs ys) (f : ∀ x y, R x y → S x y) : All2 S xs ys := ⟨h.1, fun i x y a b => f x y (h.2 i x y a b)⟩
theorem All2.nil {α β : Type} {R : α → β → Prop} : All2 R [] [] := ⟨rfl, fun i x y h => by simp at h⟩
theorem All2.snoc {α β : Type} {R : α → β → Prop} {xs : List α} {ys : List β} {x : α} {y : β} (h : All2 R xs ys) (r : R x y) : All2 R (xs ++ [x]) (ys ++ [y]) := by
  refine ⟨by rw [List.length_append, List.length_append, h.1]; rfl, fun i u v hu hv => ?_⟩
  rw [List.getElem?_append] at hu hv
  rw [← h.1] at hv
  by_cases hi : i < xs.length
  · rw [if_pos hi] at hu hv
    exact h.2 i u v hu hv
  · rw [if_neg hi] at hu hv
    cases hk : i - xs.length with
    | zero =>
      rw [hk] at hu hv
      cases Option.some.inj hu
      cases Option.some.inj hv
      exact r
    | succ k =>
      rw [hk] at hu
      cases hu
theorem All2.get {α β : Type} {R : α → β → Prop} {xs : List α} {ys : List β} (h : All2 R xs ys) {i : Nat} {x : α} (hx : xs[i]? = some x) : ∃ y, ys[i]? = some y ∧ R x y := by
  have hi : i < ys.length := by
    rw [← h.1]
    exact (List.getElem?_eq_some_iff.mp hx).1
  exact ⟨ys[i], List.getElem?_eq_getElem hi, h.2 i x _ hx (List.getElem?_eq_getElem hi)⟩
def TmAt (H : Hp) (v : V) (t : Tm) : Prop := ∃ a, v = .ref a ∧ H a = some (.tup [.int t.n, .int t.d, .str t.a])
def PtAt (H : Hp) (v : V) : Pt → Prop
  | .flat k w es => ∃ a, v = .ref a ∧ H a = some (.tup (.str k :: .str w :: es.map V.str))
  | .mix w ts => ∃ a b vs, v = .ref a ∧ H a = some (.tup [.str "mix", .str w, .ref b]) ∧ H b = some (.tup vs) ∧ All2 (TmAt H) vs ts
  | .use w p es => ∃ a b, v = .ref a ∧ H a = some (.tup [.str "use", .str w, .str p, .ref b]) ∧ H b = some (.tup (es.map V.str))
/-- tuples that stood, stand -/
def Tups (H H' : Hp) : Prop := ∀ a xs, H a = some (.tup xs) → H' a = some (.tup xs)
theorem Same.tups {H H' : Hp} (s : Same H H') : Tups H H' := fun a xs h => s a _ h
theorem Kp.tups {b c : Addr} {H H' : Hp} (k : Kp b H H') (B : Bag H b c) : Tups H H' := fun a xs h => by
  obtain ⟨ns, p, r, s, q, B⟩ := B
  exact k a _ h (ne_of h B.lb (by intro z; cases z))
theorem Tups.trans {H H1 H2 : Hp} (x : Tups H H1) (y : Tups H1 H2) : Tups H H2 := fun a xs h => y a xs (x a xs h)
theorem TmAt.tups {H H' : Hp} (s : Tups H H') {v : V} {t : Tm} (h : TmAt H v t) : TmAt H' v t := by
  obtain ⟨a, e, h⟩ := h
  exact ⟨a, e, s _ _ h⟩
theorem PtAt.tups {H H' : Hp} (s : Tups H H') {v : V} : ∀ {p : Pt}, PtAt H v p → PtAt H' v p
  | .flat _ _ _, ⟨a, e, h⟩ => ⟨a, e, s _ _ h⟩
  | .mix _ _, ⟨a, b, vs, e, h1, h2, h3⟩ => ⟨a, b, vs, e, s _ _ h1, s _ _ h2, h3.mono fun _ _ h => h.tups s⟩
  | .use _ _ _, ⟨a, b, e, h1, h2⟩ => ⟨a, b, e, s _ _ h1, s _ _ h2⟩
structure SmT (t : Tm) : Prop where
  n0 : -99 ≤ t.n
  n1 : t.n ≤ 99
  d0 : 0 ≤ t.d
  d1 : t.d ≤ 4
  a : t.a.length ≤ 10
def SmP : Pt → Prop
  | .flat k w es => ¬ k = "mix" ∧ ¬ k = "use" ∧ k.length ≤ 10 ∧ w.length ≤ 10 ∧ es.length ≤ 10 ∧ ∀ e ∈ es, e.length ≤ 10
  | .mix w ts => w.length ≤ 10 ∧ ts.length ≤ 10 ∧ ∀ t ∈ ts, SmT t
  | .use w p es => w.length ≤ 10 ∧ p.length ≤ 10 ∧ es.length ≤ 10 ∧ ∀ e ∈ es, e.length ≤ 10
/-- the digits of a number -/
def dec (i : Int) : Str := toString i
theorem dec_len {i : Int} (h0 : -99 ≤ i) (h1 : i ≤ 99) : (dec i).length ≤ 10 := by
  have all : ∀ k : Fin 199, (dec ((k.val : Int) - 99)).length ≤ 10 := by decide +kernel
  have e : i = (((⟨(i + 99).toNat, by omega⟩ : Fin 199).val : Nat) : Int) - 99 := by
    show i = ((i + 99).toNat : Int) - 99
    omega
  rw [e]
  exact all _
theorem dec_log {i : Int} (h0 : -99 ≤ i) (h1 : i ≤ 99) : i.natAbs.log2 < 1920 := by
  have h : i.natAbs < 2 ^ 7 := by omega
  by_cases z : i.natAbs = 0
  · rw [z]; decide
  · exact Nat.lt_trans ((Nat.log2_lt z).mpr h) (by decide)
def tmWords (first : Bool) (t : Tm) : List Str := (if first = true then [] else [("," : Str)]) ++ [dec t.n, t.a] ++ (if t.d = 0 then [] else [("late" : Str), dec t.d])
/-- the words of the first i terms -/
def tmsW (ts : List Tm) : Nat → List Str
  | 0 => []
  | i + 1 => tmsW ts i ++ (match ts[i]? with | some t => tmWords (i == 0) t | none => [])
theorem tmsW_succ {ts : List Tm} {i : Nat} {t : Tm} (h : ts[i]? = some t) : tmsW ts (i + 1) = tmsW ts i ++ tmWords (i == 0) t := by
  show tmsW ts i ++ (match ts[i]? with | some t => tmWords (i == 0) t | none => []) = _
  rw [h]
def ptW : Pt → List Str
  | .flat k w es => w :: k :: es
  | .mix w ts => w :: ("mix" : Str) :: tmsW ts ts.length
  | .use w p es => w :: ("use" : Str) :: p :: es
def psW (ps : List Pt) : Nat → List Str
  | 0 => []
  | i + 1 => psW ps i ++ (match ps[i]? with | some p => ptW p ++ [(";" : Str)] | none => [])
theorem psW_succ {ps : List Pt} {i : Nat} {p : Pt} (h : ps[i]? = some p) : psW ps (i + 1) = psW ps i ++ (ptW p ++ [(";" : Str)]) := by
  show psW ps i ++ (match ps[i]? with | some p => ptW p ++ [(";" : Str)] | none => []) = _
  rw [h]
def netW (ps : List Pt) (os : List Str) : List Str := psW ps ps.length ++ [(">" : Str)] ++ os
def Lo (l : List Str) (n : Nat) : Prop := l.length ≤ n ∧ ∀ z ∈ l, z.length ≤ 10
theorem Lo.app {l m : List Str} {a b : Nat} (h : Lo l a) (g : Lo m b) : Lo (l ++ m) (a + b) := ⟨by rw [List.length_append]; exact Nat.add_le_add h.1 g.1, fun z hz => (List.mem_append.mp hz).elim (h.2 z) (g.2 z)⟩
theorem Lo.le {l : List Str} {a b : Nat} (h : Lo l a) (k : a ≤ b) : Lo l b := ⟨Nat.le_trans h.1 k, h.2⟩
theorem lo_of {l : List Str} (n : Nat) (h : l.length ≤ n) (g : ∀ z ∈ l, z.length ≤ 10) : Lo l n := ⟨h, g⟩
theorem tmWords_lo {b : Bool} {t : Tm} (h : SmT t) : Lo (tmWords b t) 5 := by
  unfold tmWords
  refine Lo.app (a := 3) (b := 2) (Lo.app (a := 1) (b := 2) ?_ ?_) ?_
  · cases b with
    | true => exact ⟨Nat.zero_le _, fun z hz => nomatch hz⟩
    | false => exact ⟨by decide, by decide +kernel⟩
  · refine ⟨by show 2 ≤ 2; decide, fun z hz => ?_⟩
    rcases List.mem_cons.mp hz with e | hz
    · rw [e]; exact dec_len h.n0 h.n1
    · rw [List.mem_singleton.mp hz]; exact h.a
  · by_cases e : t.d = 0
    · rw [if_pos e]; exact ⟨Nat.zero_le _, fun z hz => nomatch hz⟩
    · rw [if_neg e]
      refine ⟨by show 2 ≤ 2; decide, fun z hz => ?_⟩
      have d0 := h.d0
      have d1 := h.d1
      rcases List.mem_cons.mp hz with e | hz
      · rw [e]; decide +kernel
      · rw [List.mem_singleton.mp hz]; exact dec_len (by omega) (by omega)
theorem tmsW_lo {ts : List Tm} (h : ∀ t ∈ ts, SmT t) : ∀ i, Lo (tmsW ts i) (5 * i)
  | 0 => ⟨Nat.le_refl _, fun z hz => nomatch hz⟩
  | i + 1 => by
    show Lo (tmsW ts i ++ (match ts[i]? with | some t => tmWords (i == 0) t | none => [])) (5 * i + 5)
    refine (tmsW_lo h i).app ?_
    cases e : ts[i]? with
    | none => exact ⟨Nat.zero_le _, fun z hz => nomatch hz⟩
    | some t => exact tmWords_lo (h t (List.mem_of_getElem? e))
theorem ptW_lo : ∀ {p : Pt}, SmP p → Lo (ptW p) 60
  | .flat k w es, ⟨_, _, hk, hw, hl, he⟩ => (lo_of (l := [w, k]) 2 (Nat.le_refl _) (fun z hz => by
      rcases List.mem_cons.mp hz with e | hz
      · rw [e]; exact hw
      · rw [List.mem_singleton.mp hz]; exact hk)).app (lo_of 58 (by omega) he)
  | .mix w ts, ⟨hw, hl, ht⟩ => (lo_of (l := [w, ("mix" : Str)]) 2 (Nat.le_refl _) (fun z hz => by
      rcases List.mem_cons.mp hz with e | hz
      · rw [e]; exact hw
      · rw [List.mem_singleton.mp hz]; decide +kernel)).app ((tmsW_lo ht ts.length).le (b := 58) (by omega))
  | .use w p es, ⟨hw, hp, hl, he⟩ => (lo_of (l := [w, ("use" : Str), p]) 3 (Nat.le_refl _) (fun z hz => by
      rcases List.mem_cons.mp hz with e | hz
      · rw [e]; exact hw
      · rcases List.mem_cons.mp hz with e | hz
        · rw [e]; decide +kernel
        · rw [List.mem_singleton.mp hz]; exact hp)).app (lo_of 57 (by omega) he)
theorem psW_lo {ps : List Pt} (h : ∀ p ∈ ps, SmP p) : ∀ i, Lo (psW ps i) (61 * i)
  | 0 => ⟨Nat.le_refl _, fun z hz => nomatch hz⟩
  | i + 1 => by
    show Lo (psW ps i ++ (match ps[i]? with | some p => ptW p ++ [(";" : Str)] | none => [])) (61 * i + 61)
    refine (psW_lo h i).app ?_
    cases e : ps[i]? with
    | none => exact ⟨Nat.zero_le _, fun z hz => nomatch hz⟩
    | some p => exact (ptW_lo (h p (List.mem_of_getElem? e))).app (lo_of (l := [(";" : Str)]) 1 (Nat.le_refl _) (by decide +kernel))
theorem lo_sum {l : List Str} (h : ∀ z ∈ l, z.length ≤ 10) : (l.map (·.length)).sum ≤ 10 * l.length := by
  induction l with
  | nil => exact Nat.le_refl _
  | cons x r ih =>
    have h1 := h x (List.mem_cons_self ..)
    have h2 := ih fun z hz => h z (List.mem_cons_of_mem _ hz)
    rw [List.map_cons, List.sum_cons, List.length_cons]
    omega
/-! ### text_of and its helpers -/
abbrev sText : Stmt := top 27
abbrev sPartW : Stmt := top 28
abbrev sTermsW : Stmt := top 29
theorem same_wr {H H' : Hp} (s : Same H H') {p : Addr} (h : H p = none) (o : HO) : Same H (upd H' p o) := fun a u e => by rw [upd_ne (ne_of_none e h)]; exact s a u e
theorem strs_app (l m : List Str) : l.map V.str ++ m.map V.str = (l ++ m).map V.str := (List.map_append ..).symm
def spTermsW : Sp := fun vs H Q _ => ∃ (b : Addr) (us : List V) (ts : List Tm), vs = [.ref b] ∧ H b = some (.tup us) ∧ All2 (TmAt H) us ts ∧ ts.length ≤ 10 ∧ (∀ t ∈ ts, SmT t) ∧
  ∀ (l : Addr) (H' : Hp), Same H H' → H l = none → H' l = some (.lst ((tmsW ts ts.length).map V.str)) → Q (.ref l) H'
theorem scTermsW : FnScope ["terms", "words", "at", "factor", "delay", "wire"] ["terms"] (defScope sTermsW) := ⟨rfl, rfl, rfl, by decide +kernel, rfl, by decide +kernel, by decide +kernel⟩
theorem ok_termsW {f : Addr} {fd : FuncData} (F : Fun K "words_of_terms" "words_of_terms" sTermsW f fd) (menum : mg "enumerate" = none) (mstr : mg "str" = none) : FnOk P w K mg base CX0 1 f fd ["terms"] spTermsW := by
  refine F.ok scTermsW (fun vs H Q E h => ?_) (fun cdv A outer s H vs Q E hr h => ?_)
  · obtain ⟨b, us, ts, rfl, _⟩ := h
    rfl
  obtain ⟨b, us, ts, rfl, hb, hA, h10, hsm, q⟩ := h
  refine ⟨_, pss_cons (ps_set (i := 1) scTermsW.nd rfl (Or.inl rfl) (pe_lst pa_nil))
    (pss_cons (ps_for PassesOwn.never rfl (pi_enumT (by rfl) menum (pa_cons (pv 0) pa_nil))
      (pg_tup (n := 2) rfl (pgs_cons (pg_name (i := 2) scTermsW.nd rfl (Or.inl rfl)) (pgs_cons (pg_tup (n := 3) rfl (pgs_cons (pg_name (i := 3) scTermsW.nd rfl (Or.inl rfl)) (pgs_cons (pg_name (i := 4) scTermsW.nd rfl (Or.inl rfl)) (pgs_cons (pg_name (i := 5) scTermsW.nd rfl (Or.inl rfl)) pgs_nil)))) pgs_nil)))
      (C8.pss_cut (ps_if (pt_cmpR op_gt (pv 2) pe_int (nomark _)) (pss_one (ps_expr (pe_bm PySem.F.plainAttrs_list PySem.F.slot_list_append PySem.F.type_list_append mt_append (pv 1) (pa_cons pe_str pa_nil)))) pss_nil)
      (pss_cons (ps_expr (pe_bm PySem.F.plainAttrs_list PySem.F.slot_list_extend PySem.F.type_list_extend mt_extend (pv 1) (pa_cons (pe_lst (pa_cons (pe_callTy call_str_int (by rfl) mstr (by decide +kernel) (pa_cons (pv 3) pa_nil)) (pa_cons (pv 5) pa_nil))) pa_nil)))
      (pss_one (ps_if (pt_cmpR op_ne (pv 4) pe_int (nomark _)) (pss_one (ps_expr (pe_bm PySem.F.plainAttrs_list PySem.F.slot_list_extend PySem.F.type_list_extend mt_extend (pv 1) (pa_cons (pe_lst (pa_cons pe_str (pa_cons (pe_callTy call_str_int (by rfl) mstr (by decide +kernel) (pa_cons (pv 4) pa_nil)) pa_nil))) pa_nil)))) pss_nil)))))
    (pss_one (ps_ret (pv 1)))), ?_⟩
  refine ⟨Nat.zero_le _, fun L hL => ?_⟩
  have nbL : b ≠ L := ne_of_none hb hL
  have s1 : Same H (upd H L (.lst [])) := same_upd hL _
  refine ⟨.ref b, rfl, b, us, rfl, SqT.of (s1 _ _ hb), for_enumT (xs := us) (fun i σ H2 => ∃ v2 v3 v4 v5, σ = [some (.ref b), some (.ref L), v2, v3, v4, v5] ∧ Same H H2 ∧ H2 L = some (.lst ((tmsW ts i).map V.str)))
    ⟨none, none, none, none, rfl, s1, upd_same⟩ (fun i σ H2 ⟨_, _, _, _, _, s2, _⟩ => SqT.of (s2 _ _ hb)) ?_ ?_⟩
  · rintro i x T σ H2 hx ⟨v2, v3, v4, v5, rfl, s2, hL2⟩ hT
    obtain ⟨t, ht, a, rfl, ha⟩ := hA.get hx
    have hi : i < ts.length := (List.getElem?_eq_some_iff.mp ht).1
    have sm := hsm t (List.mem_of_getElem? ht)
    have nLT : L ≠ T := ne_of_none hL2 hT
    have s3 : Same H (upd H2 T (.tup [.int (i : Nat), .ref a])) := s2.trans (same_upd hT _)
    have lo := tmsW_lo hsm i
    have hlo : ((tmsW ts i).map V.str).length ≤ 50 := by rw [List.length_map]; exact Nat.le_trans lo.1 (by omega)
    have h1000 : (1000 : Nat) ≤ sizeLine := by decide
    refine ⟨T, [.int (i : Nat), .ref a], rfl, SqT.of upd_same, rfl, _, _, rfl, .ref a, [], rfl, a, _, rfl, SqT.of (s3 _ _ ha), rfl, _, _, rfl, _, _, rfl, _, _, rfl, rfl, rfl, ?_⟩
    -- if at > 0
    refine ⟨fun σ' H3 => σ' = [some (.ref b), some (.ref L), some (.int (i : Nat)), some (.int t.n), some (.int t.d), some (.str t.a)] ∧ Same H H3 ∧ H3 L = some (.lst ((tmsW ts i ++ (if (i == 0) = true then [] else [("," : Str)])).map V.str)), ?_, ?_⟩
    · refine ⟨_, rfl, _, _, rfl, rfl, _, rfl, ?_⟩
      refine ite2 (fun c => ?_) (fun c => ?_)
      · have c' : (0 : Int) < ((i : Nat) : Int) := of_decide_eq_true c
        refine ⟨.ref L, rfl, .inl ⟨rfl, _, SqL.of (by rw [upd_ne nLT]; exact hL2)⟩, L, _, _, rfl, rfl, by rw [upd_ne nLT]; exact hL2, by omega, ?_⟩
        refine ⟨rfl, same_wr s3 hL _, ?_⟩
        rw [upd_same, if_neg (by simp; omega), List.map_append]
        rfl
      · have c' : ¬ (0 : Int) < ((i : Nat) : Int) := of_decide_eq_false (Bool.eq_false_iff.mpr c)
        refine ⟨rfl, s3, ?_⟩
        rw [upd_ne nLT, if_pos (by simp; omega), List.append_nil]
        exact hL2
    rintro σ' H3 ⟨rfl, s4, hL3⟩
    generalize hsep : (if (i == 0) = true then [] else [("," : Str)]) = sep at hL3
    have hsl : sep.length ≤ 1 := by
      rw [← hsep]
      cases (i == 0) with
      | true => exact Nat.zero_le _
      | false => exact Nat.le_refl _
    have hlen3 : ((tmsW ts i ++ sep).map V.str).length ≤ 51 := by
      rw [List.length_map] at hlo ⊢
      rw [List.length_append]
      omega
    -- words.extend([str(factor), wire])
    refine ⟨.ref L, rfl, .inl ⟨rfl, _, SqL.of hL3⟩, _, rfl, _, rfl, dec_log sm.n0 sm.n1, _, rfl, (by show 2 ≤ sizeLine; decide), fun m hm => ?_⟩
    have nLm : L ≠ m := ne_of_none hL3 hm
    refine ⟨L, m, _, _, rfl, rfl, by rw [upd_ne nLm]; exact hL3, upd_same, (by show _ + 2 ≤ _; omega), ?_⟩
    have s5 : Same H (upd (upd H3 m (.lst [.str (toString t.n), .str t.a])) L (.lst ((tmsW ts i ++ sep).map V.str ++ [.str (toString t.n), .str t.a]))) := same_wr (s4.trans (same_upd hm _)) hL _
    have e5 : (tmsW ts i ++ sep).map V.str ++ [.str (toString t.n), .str t.a] = ((tmsW ts i ++ sep) ++ [dec t.n, t.a]).map V.str := strs_app (tmsW ts i ++ sep) [dec t.n, t.a]
    have hL5 : (upd (upd H3 m (.lst [.str (toString t.n), .str t.a])) L (.lst ((tmsW ts i ++ sep).map V.str ++ [.str (toString t.n), .str t.a]))) L = some (.lst (((tmsW ts i ++ sep) ++ [dec t.n, t.a]).map V.str)) := by rw [upd_same, e5]
    generalize (upd (upd H3 m (.lst [.str (toString t.n), .str t.a])) L (.lst ((tmsW ts i ++ sep).map V.str ++ [.str (toString t.n), .str t.a]))) = H5 at s5 hL5
    -- if delay != 0
    refine ⟨_, rfl, rfl, _, rfl, ?_⟩
    refine ite2 (fun c => ?_) (fun c => ?_)
    · have d0 : ¬ t.d = 0 := fun e => by
        rw [e] at c
        cases c
      have d0' := sm.d0
      have d1' := sm.d1
      refine ⟨.ref L, rfl, .inl ⟨rfl, _, SqL.of hL5⟩, _, rfl, _, rfl, dec_log (by omega) (by omega), (by show 2 ≤ sizeLine; decide), fun m2 hm2 => ?_⟩
      have nLm2 : L ≠ m2 := ne_of_none hL5 hm2
      refine ⟨L, m2, _, _, rfl, rfl, by rw [upd_ne nLm2]; exact hL5, upd_same, ?_, ?_⟩
      · rw [List.length_map, List.length_append]
        rw [List.length_map] at hlen3
        show _ + 2 + 2 ≤ _
        omega
      · refine ⟨_, _, _, _, rfl, same_wr (s5.trans (same_upd hm2 _)) hL _, ?_⟩
        rw [upd_same, tmsW_succ ht]
        unfold tmWords
        rw [hsep, if_neg d0]
        have e6 : (tmsW ts i ++ sep ++ [dec t.n, t.a]).map V.str ++ [V.str "late", V.str (toString t.d)] = ((tmsW ts i ++ sep ++ [dec t.n, t.a]) ++ [("late" : Str), dec t.d]).map V.str := strs_app _ [("late" : Str), dec t.d]
        rw [e6]
        simp only [List.append_assoc]
    · have d0 : t.d = 0 := by
        by_cases e : t.d = 0
        · exact e
        · exact absurd (show (!decide (V.int t.d = V.int 0)) = true by rw [decide_eq_false (fun z => e (V.int.inj z))]; rfl) c
      refine ⟨_, _, _, _, rfl, s5, ?_⟩
      rw [hL5, tmsW_succ ht]
      unfold tmWords
      rw [hsep, if_pos d0, List.append_nil, List.append_assoc]
  · rintro σ H2 ⟨v2, v3, v4, v5, rfl, s2, hL2⟩
    rw [hA.1] at hL2
    exact ⟨.ref L, rfl, q L H2 s2 hL hL2⟩
def spPartW : Sp := fun vs H Q _ => ∃ (x : V) (p : Pt), vs = [x] ∧ PtAt H x p ∧ SmP p ∧ ∀ (l : Addr) (H' : Hp), Same H H' → H l = none → H' l = some (.lst ((ptW p).map V.str)) → Q (.ref l) H'
theorem scPartW : FnScope ["part", "kind", "wire", "items"] ["part"] (defScope sPartW) := ⟨rfl, rfl, rfl, by decide +kernel, rfl, by decide +kernel, by decide +kernel⟩
theorem ok_partW {f g : Addr} {fd gd : FuncData} (F : Fun K "words_of_part" "words_of_part" sPartW f fd) (G : Df P w K mg base 1 g gd "words_of_terms" ["terms"] spTermsW) : FnOk P w K mg base CX0 2 f fd ["part"] spPartW := by
  refine F.ok scPartW (fun vs H Q E h => ?_) (fun cdv A outer s H vs Q E hr h => ?_)
  · obtain ⟨x, p, rfl, _⟩ := h
    rfl
  obtain ⟨x, p, rfl, hp, hs, q⟩ := h
  refine ⟨_, pss_cons (ps_asg (pv 0) (pg_star (n := 2) rfl (pgs_cons (pg_name (i := 1) scPartW.nd rfl (Or.inl rfl)) (pgs_cons (pg_name (i := 2) scPartW.nd rfl (Or.inl rfl)) (pgs_star (pg_name (i := 3) scPartW.nd rfl (Or.inl rfl)))))))
    (pss_cons (ps_if (pt_cmpR op_eq (pv 1) pe_str (nomark _)) (pss_one (ps_ret (pe_lst (pa_cons (pv 2) (pa_cons (pv 1) (StX.pa_star (pe_call G.ok hr (by rfl) G.m G.kp G.b .nil pass0 (pa_cons (pe_ix ix_list (pv 3) pe_int (fun _ _ => rfl)) pa_nil)) pa_nil)))))) pss_nil)
    (pss_cons (ps_if (pt_cmpR op_eq (pv 1) pe_str (nomark _)) (pss_one (ps_ret (pe_lst (pa_cons (pv 2) (pa_cons (pv 1) (pa_cons (pe_ix ix_list (pv 3) pe_int (fun _ _ => rfl)) (StX.pa_star (pe_ix ix_list (pv 3) pe_int (fun _ _ => rfl)) pa_nil))))))) pss_nil)
    (pss_one (ps_ret (pe_lst (pa_cons (pv 2) (pa_cons (pv 1) (StX.pa_star (pv 3) pa_nil)))))))), ?_⟩
  have lo := ptW_lo hs
  have h1000 : (1000 : Nat) ≤ sizeLine := by decide
  have lenOk : ∀ l : List Str, l.length ≤ 60 → (l.map V.str).length ≤ sizeLine := fun l h => by rw [List.length_map]; omega
  cases p with
  | flat k w es =>
    obtain ⟨a, rfl, ha⟩ := hp
    obtain ⟨n1, n2, _⟩ := hs
    refine ⟨.ref a, rfl, a, _, rfl, SqT.of ha, (by show 2 ≤ _ + 2; omega), fun p hp0 => ?_⟩
    refine ⟨_, _, rfl, _, _, rfl, _, _, rfl, rfl, ?_⟩
    refine ⟨_, rfl, rfl, _, rfl, ?_⟩
    rw [decide_eq_false (fun e => n1 (V.str.inj e))]
    refine iteF ?_
    refine ⟨_, rfl, rfl, _, rfl, ?_⟩
    rw [decide_eq_false (fun e => n2 (V.str.inj e))]
    refine iteF ?_
    refine ⟨_, rfl, _, rfl, _, rfl, p, _, rfl, .inr (SqL.of upd_same), ?_, fun l hl => ?_⟩
    · have e := lenOk (w :: k :: es) lo.1
      have e2 : (List.drop 2 (V.str k :: V.str w :: es.map V.str) ++ []).length = es.length := by
        rw [List.append_nil]
        show (es.map V.str).length = _
        rw [List.length_map]
      rw [List.length_map] at e
      show (List.drop 2 (V.str k :: V.str w :: es.map V.str) ++ []).length + 1 + 1 ≤ _
      rw [e2]
      exact e
    · refine q l _ ((same_upd hp0 _).trans (same_upd hl _)) ((same_upd hp0 _).free hl) ?_
      rw [upd_same]
      show some (HO.lst (V.str w :: V.str k :: (es.map V.str ++ []))) = some (HO.lst (V.str w :: V.str k :: es.map V.str))
      rw [List.append_nil]
  | mix w ts =>
    obtain ⟨a, b, us, rfl, ha, hb, hA⟩ := hp
    obtain ⟨_, hl, ht⟩ := hs
    refine ⟨.ref a, rfl, a, _, rfl, SqT.of ha, (by show 2 ≤ 3; decide), fun p hp0 => ?_⟩
    have s1 := same_upd hp0 (.lst [.ref b])
    refine ⟨_, _, rfl, _, _, rfl, _, _, rfl, rfl, ?_⟩
    refine ⟨_, rfl, rfl, _, rfl, ?_⟩
    rw [decide_eq_true (rfl : V.str "mix" = V.str "mix")]
    refine iteT ?_
    refine ⟨_, rfl, _, rfl, .ref p, rfl, p, [.ref b], 0, .ref b, rfl, rfl, SqL.of upd_same, rfl, ?_⟩
    refine ⟨b, us, ts, rfl, s1 _ _ hb, hA.mono fun _ _ z => z.tups (Same.tups s1), hl, ht, fun l H' s2 hl0 hlH => ?_⟩
    refine ⟨l, _, rfl, .inr (SqL.of hlH), ?_, fun m hm => ?_⟩
    · have e := lo.1
      show ((tmsW ts ts.length).map V.str ++ []).length + 1 + 1 ≤ _
      rw [List.append_nil, List.length_map]
      have e2 : (ptW (.mix w ts)).length = (tmsW ts ts.length).length + 1 + 1 := rfl
      omega
    · refine q m _ ((s1.trans s2).trans (same_upd hm _)) (s1.free (s2.free hm)) ?_
      rw [upd_same]
      show some (HO.lst (V.str w :: V.str "mix" :: ((tmsW ts ts.length).map V.str ++ []))) = _
      rw [List.append_nil]
      rfl
  | use w p es =>
    obtain ⟨a, b, rfl, ha, hb⟩ := hp
    obtain ⟨_, _, hl, _⟩ := hs
    refine ⟨.ref a, rfl, a, _, rfl, SqT.of ha, (by show 2 ≤ 4; decide), fun p0 hp0 => ?_⟩
    have s1 := same_upd hp0 (.lst [.str p, .ref b])
    refine ⟨_, _, rfl, _, _, rfl, _, _, rfl, rfl, ?_⟩
    refine ⟨_, rfl, rfl, _, rfl, ?_⟩
    rw [decide_eq_false (show ¬ V.str "use" = V.str "mix" by decide +kernel)]
    refine iteF ?_
    refine ⟨_, rfl, rfl, _, rfl, ?_⟩
    rw [decide_eq_true (rfl : V.str "use" = V.str "use")]
    refine iteT ?_
    refine ⟨_, rfl, _, rfl, .ref p0, rfl, p0, [.str p, .ref b], 0, .str p, rfl, rfl, SqL.of upd_same, rfl, ?_⟩
    refine ⟨.ref p0, rfl, p0, [.str p, .ref b], 1, .ref b, rfl, rfl, SqL.of upd_same, rfl, ?_⟩
    refine ⟨b, _, rfl, .inl (SqT.of (s1 _ _ hb)), ?_, fun m hm => ?_⟩
    · show (es.map V.str ++ []).length + 1 + 1 + 1 ≤ _
      rw [List.append_nil, List.length_map]
      omega
    · refine q m _ (s1.trans (same_upd hm _)) (s1.free hm) ?_
      rw [upd_same]
      show some (HO.lst (V.str w :: V.str "use" :: V.str p :: (es.map V.str ++ []))) = _
      rw [List.append_nil]
      rfl
theorem sameT {H H' : Hp} (s : Same H H') {a : Addr} {xs : List V} (h : SqT K H a xs) : SqT K H' a xs := by
  rcases h with (h | ⟨o, h⟩) | h
  · exact .inl (.inl (s _ _ h))
  · exact .inl (.inr ⟨o, s _ _ h⟩)
  · exact .inr h
theorem sameL {H H' : Hp} (s : Same H H') {a : Addr} {xs : List V} (h : SqL K H a xs) : SqL K H' a xs := s.seq h
theorem scText : FnScope ["parts", "outs", "words", "part"] ["parts", "outs"] (defScope sText) := ⟨rfl, rfl, rfl, by decide +kernel, rfl, by decide +kernel, by decide +kernel⟩
/-- text_of over a L of parts -/
def spTextL (K : PySem.W.Frag) : Sp := fun vs H Q _ => ∃ (a o : Addr) (us : List V) (ps : List Pt) (os : List Str), vs = [.ref a, .ref o] ∧ SqL K H a us ∧ All2 (PtAt H) us ps ∧ ps.length ≤ 20 ∧ (∀ p ∈ ps, SmP p) ∧
  (SqT K H o (os.map V.str) ∨ SqL K H o (os.map V.str)) ∧ Lo os 20 ∧ ∀ H', Same H H' → Q (.str (Txt.join " " (netW ps os))) H'
theorem ok_textL {f g : Addr} {fd gd : FuncData} (F : Fun K "text_of" "text_of" sText f fd) (G : Df P w K mg base 2 g gd "words_of_part" ["part"] spPartW) : FnOk P w K mg base CX0 3 f fd ["parts", "outs"] (spTextL K) := by
  refine F.ok scText (fun vs H Q E h => ?_) (fun cdv A outer s H vs Q E hr h => ?_)
  · obtain ⟨a, o, us, ps, os, rfl, _⟩ := h
    rfl
  obtain ⟨a, o, us, ps, os, rfl, ha, hA, hl, hs, ho, lo, q⟩ := h
  refine ⟨_, pss_cons (ps_set (i := 2) scText.nd rfl (Or.inl rfl) (pe_lst pa_nil))
    (pss_cons (ps_for PassesOwn.never rfl (pi_list (pv 0)) (pg_name (i := 3) scText.nd rfl (Or.inl rfl))
      (pss_cons (ps_expr (pe_bm PySem.F.plainAttrs_list PySem.F.slot_list_extend PySem.F.type_list_extend mt_extend (pv 2) (pa_cons (pe_call G.ok hr (by rfl) G.m G.kp G.b .nil pass0 (pa_cons (pv 3) pa_nil)) pa_nil)))
      (pss_one (ps_expr (pe_bm PySem.F.plainAttrs_list PySem.F.slot_list_append PySem.F.type_list_append mt_append (pv 2) (pa_cons pe_str pa_nil))))))
    (pss_one (ps_ret (pe_join pe_str (pe_lst (StX.pa_star (pv 2) (pa_cons pe_str (StX.pa_star (pv 1) pa_nil)))))))), ?_⟩
  have h10000 : (10000 : Nat) ≤ sizeLine := by decide
  refine ⟨Nat.zero_le _, fun L hL => ?_⟩
  have s1 : Same H (upd H L (.lst [])) := same_upd hL _
  refine ⟨.ref a, rfl, a, rfl, ⟨_, sameL s1 ha⟩, for_list (K := K) (a := a) (xs := us) (fun i σ H2 => ∃ v3, σ = [some (.ref a), some (.ref o), some (.ref L), v3] ∧ Same H H2 ∧ H2 L = some (.lst ((psW ps i).map V.str)))
    ⟨none, rfl, s1, upd_same⟩ (fun i σ H2 _ ⟨_, _, s2, _⟩ => sameL s2 ha) ?_ ?_⟩
  · rintro i x σ H2 hx ⟨v3, rfl, s2, hL2⟩
    obtain ⟨p, hp, hxp⟩ := hA.get hx
    have hi : i < ps.length := (List.getElem?_eq_some_iff.mp hp).1
    have hsm := hs p (List.mem_of_getElem? hp)
    have l1 := (psW_lo hs i).1
    have l2 := (ptW_lo hsm).1
    refine ⟨.ref L, rfl, .inl ⟨rfl, _, SqL.of hL2⟩, x, rfl, x, p, rfl, hxp.tups (Same.tups s2), hsm, fun l H3 s3 hl3 hlH => ?_⟩
    have nLl : L ≠ l := ne_of_none hL2 hl3
    have hL3 := s3 _ _ hL2
    refine ⟨L, l, _, _, rfl, rfl, hL3, hlH, ?_, ?_⟩
    · rw [List.length_map, List.length_map]
      omega
    rw [strs_app]
    refine ⟨.ref L, rfl, .inl ⟨rfl, _, SqL.of upd_same⟩, L, _, _, rfl, rfl, upd_same, ?_, ?_⟩
    · rw [List.length_map, List.length_append]
      omega
    · refine ⟨_, rfl, same_wr (same_wr (s2.trans s3) hL _) hL _, ?_⟩
      have e : ((psW ps i ++ ptW p).map V.str ++ [V.str ";"]) = (psW ps (i + 1)).map V.str := by
        rw [psW_succ hp]
        have e2 := strs_app (psW ps i ++ ptW p) [(";" : Str)]
        rw [List.append_assoc] at e2
        exact e2
      rw [upd_same, e]
  · rintro σ H2 ⟨v3, rfl, s2, hL2⟩
    rw [hA.1] at hL2
    have l1 := psW_lo hs ps.length
    have e : (psW ps ps.length).map V.str ++ (V.str ">" :: (os.map V.str ++ [])) = (netW ps os).map V.str := by
      unfold netW
      rw [List.append_nil, List.map_append, List.map_append, List.append_assoc]
      rfl
    have lo2 : Lo (netW ps os) 1300 := ((l1.app (lo_of (l := [(">" : Str)]) 1 (Nat.le_refl _) (by decide +kernel))).app lo).le (by omega)
    refine ⟨⟨_, rfl⟩, .ref L, rfl, L, _, rfl, .inr (SqL.of hL2), ?_⟩
    refine ⟨.ref o, rfl, o, _, rfl, ho.elim (fun z => .inl (sameT s2 z)) (fun z => .inr (s2.seq z)), ?_, fun m hm => ?_⟩
    · show ((psW ps ps.length).map V.str ++ (V.str ">" :: (os.map V.str ++ []))).length ≤ _
      rw [e, List.length_map]
      exact Nat.le_trans lo2.1 (by omega)
    · refine ⟨" ", m, netW ps os, rfl, rfl, .inl (SqL.of ?_), ?_, q _ (s2.trans (same_upd hm _))⟩
      · rw [upd_same]
        show some (HO.lst ((psW ps ps.length).map V.str ++ (V.str ">" :: (os.map V.str ++ [])))) = _
        rw [e]
      · have h1 := lo_sum lo2.2
        have h2 := lo2.1
        have e1 : ((" " : String) : Str).length = 1 := by decide +kernel
        rw [e1]
        omega
/-- text_of over a T of parts -/
def spTextT (K : PySem.W.Frag) : Sp := fun vs H Q _ => ∃ (a o : Addr) (us : List V) (ps : List Pt) (os : List Str), vs = [.ref a, .ref o] ∧ SqT K H a us ∧ All2 (PtAt H) us ps ∧ ps.length ≤ 20 ∧ (∀ p ∈ ps, SmP p) ∧
  (SqT K H o (os.map V.str) ∨ SqL K H o (os.map V.str)) ∧ Lo os 20 ∧ ∀ H', Same H H' → Q (.str (Txt.join " " (netW ps os))) H'
theorem ok_textT {f g : Addr} {fd gd : FuncData} (F : Fun K "text_of" "text_of" sText f fd) (G : Df P w K mg base 2 g gd "words_of_part" ["part"] spPartW) : FnOk P w K mg base CX0 3 f fd ["parts", "outs"] (spTextT K) := by
  refine F.ok scText (fun vs H Q E h => ?_) (fun cdv A outer s H vs Q E hr h => ?_)
  · obtain ⟨a, o, us, ps, os, rfl, _⟩ := h
    rfl
  obtain ⟨a, o, us, ps, os, rfl, ha, hA, hl, hs, ho, lo, q⟩ := h
  refine ⟨_, pss_cons (ps_set (i := 2) scText.nd rfl (Or.inl rfl) (pe_lst pa_nil))
    (pss_cons (ps_for PassesOwn.never rfl (pi_tup (pv 0)) (pg_name (i := 3) scText.nd rfl (Or.inl rfl))
      (pss_cons (ps_expr (pe_bm PySem.F.plainAttrs_list PySem.F.slot_list_extend PySem.F.type_list_extend mt_extend (pv 2) (pa_cons (pe_call G.ok hr (by rfl) G.m G.kp G.b .nil pass0 (pa_cons (pv 3) pa_nil)) pa_nil)))
      (pss_one (ps_expr (pe_bm PySem.F.plainAttrs_list PySem.F.slot_list_append PySem.F.type_list_append mt_append (pv 2) (pa_cons pe_str pa_nil))))))
    (pss_one (ps_ret (pe_join pe_str (pe_lst (StX.pa_star (pv 2) (pa_cons pe_str (StX.pa_star (pv 1) pa_nil)))))))), ?_⟩
  have h10000 : (10000 : Nat) ≤ sizeLine := by decide
  refine ⟨Nat.zero_le _, fun L hL => ?_⟩
  have s1 : Same H (upd H L (.lst [])) := same_upd hL _
  refine ⟨.ref a, rfl, a, rfl, ⟨_, sameT s1 ha⟩, for_tup (K := K) (a := a) (xs := us) (fun i σ H2 => ∃ v3, σ = [some (.ref a), some (.ref o), some (.ref L), v3] ∧ Same H H2 ∧ H2 L = some (.lst ((psW ps i).map V.str)))
    ⟨none, rfl, s1, upd_same⟩ (fun i σ H2 _ ⟨_, _, s2, _⟩ => sameT s2 ha) ?_ ?_⟩
  · rintro i x σ H2 hx ⟨v3, rfl, s2, hL2⟩
    obtain ⟨p, hp, hxp⟩ := hA.get hx
    have hi : i < ps.length := (List.getElem?_eq_some_iff.mp hp).1
    have hsm := hs p (List.mem_of_getElem? hp)
    have l1 := (psW_lo hs i).1
    have l2 := (ptW_lo hsm).1
    refine ⟨.ref L, rfl, .inl ⟨rfl, _, SqL.of hL2⟩, x, rfl, x, p, rfl, hxp.tups (Same.tups s2), hsm, fun l H3 s3 hl3 hlH => ?_⟩
    have nLl : L ≠ l := ne_of_none hL2 hl3
    have hL3 := s3 _ _ hL2
    refine ⟨L, l, _, _, rfl, rfl, hL3, hlH, ?_, ?_⟩
    · rw [List.length_map, List.length_map]
      omega
    rw [strs_app]
    refine ⟨.ref L, rfl, .inl ⟨rfl, _, SqL.of upd_same⟩, L, _, _, rfl, rfl, upd_same, ?_, ?_⟩
    · rw [List.length_map, List.length_append]
      omega
    · refine ⟨_, rfl, same_wr (same_wr (s2.trans s3) hL _) hL _, ?_⟩
      have e : ((psW ps i ++ ptW p).map V.str ++ [V.str ";"]) = (psW ps (i + 1)).map V.str := by
        rw [psW_succ hp]
        have e2 := strs_app (psW ps i ++ ptW p) [(";" : Str)]
        rw [List.append_assoc] at e2
        exact e2
      rw [upd_same, e]
  · rintro σ H2 ⟨v3, rfl, s2, hL2⟩
    rw [hA.1] at hL2
    have l1 := psW_lo hs ps.length
    have e : (psW ps ps.length).map V.str ++ (V.str ">" :: (os.map V.str ++ [])) = (netW ps os).map V.str := by
      unfold netW
      rw [List.append_nil, List.map_append, List.map_append, List.append_assoc]
      rfl
    have lo2 : Lo (netW ps os) 1300 := ((l1.app (lo_of (l := [(">" : Str)]) 1 (Nat.le_refl _) (by decide +kernel))).app lo).le (by omega)
    refine ⟨⟨_, rfl⟩, .ref L, rfl, L, _, rfl, .inr (SqL.of hL2), ?_⟩
    refine ⟨.ref o, rfl, o, _, rfl, ho.elim (fun z => .inl (sameT s2 z)) (fun z => .inr (s2.seq z)), ?_, fun m hm => ?_⟩
    · show ((psW ps ps.length).map V.str ++ (V.str ">" :: (os.map V.str ++ []))).length ≤ _
      rw [e, List.length_map]
      exact Nat.le_trans lo2.1 (by omega)
    · refine ⟨" ", m, netW ps os, rfl, rfl, .inl (SqL.of ?_), ?_, q _ (s2.trans (same_upd hm _))⟩
      · rw [upd_same]
        show some (HO.lst ((psW ps ps.length).map V.str ++ (V.str ">" :: (os.map V.str ++ [])))) = _
        rw [e]
      · have h1 := lo_sum lo2.2
        have h2 := lo2.1
        have e1 : ((" " : String) : Str).length = 1 := by decide +kernel
        rw [e1]
        omega
theorem IsNm.b {z : Str} (h : IsNm z) : nameB z = true := by
  unfold nameB
  have h1 := h.l1
  have h4 := h.l4
  rw [lowB_of h.low, decide_eq_true (by omega), decide_eq_true (by omega)]
  rfl
def bare (t : Tm) : List Str := [dec t.n, t.a] ++ (if t.d = 0 then [] else [("late" : Str), dec t.d])
def commaW : List Tm → List Str
  | [] => []
  | t :: r => ("," : Str) :: (bare t ++ commaW r)
theorem tmWords_first (t : Tm) : tmWords true t = bare t := rfl
theorem tmWords_later (t : Tm) : tmWords false t = ("," : Str) :: bare t := rfl
theorem tmsW_rest {ts : List Tm} : ∀ (k j : Nat), j + k = ts.length → 1 ≤ j → tmsW ts ts.length = tmsW ts j ++ commaW (ts.drop j)
  | 0, j, h, _ => by
    have e : j = ts.length := by omega
    subst e
    rw [List.drop_length]
    show _ = _ ++ []
    rw [List.append_nil]
  | k + 1, j, h, h1 => by
    have hj : j < ts.length := by omega
    rw [tmsW_rest k (j + 1) (by omega) (by omega), tmsW_succ (List.getElem?_eq_getElem hj), List.drop_eq_getElem_cons hj]
    rw [show (j == 0) = false from by simp; omega, tmWords_later, List.append_assoc]
    rfl
theorem tmsW_cons (t : Tm) (r : List Tm) : tmsW (t :: r) (t :: r).length = bare t ++ commaW r := by
  rw [tmsW_rest (ts := t :: r) r.length 1 (by rw [List.length_cons]; omega) (Nat.le_refl _)]
  rw [tmsW_succ (ts := t :: r) (i := 0) (t := t) rfl]
  rfl
/-- what follows a term -/
theorem after_term (l : List Tm) (R : List Str) : ∃ y R', commaW l ++ (";" : Str) :: R = y :: R' ∧ ¬ y = ("late" : Str) := by
  cases l with
  | nil => exact ⟨";", R, rfl, by decide +kernel⟩
  | cons t r => exact ⟨",", bare t ++ commaW r ++ (";" : Str) :: R, rfl, by decide +kernel⟩
theorem dec_semi {i : Int} (h0 : -99 ≤ i) (h1 : i ≤ 99) : ¬ dec i = (";" : Str) := by
  have all : ∀ k : Fin 199, ¬ dec ((k.val : Int) - 99) = (";" : Str) := by decide +kernel
  have e : i = (((⟨(i + 99).toNat, by omega⟩ : Fin 199).val : Nat) : Int) - 99 := by
    show i = ((i + 99).toNat : Int) - 99
    omega
  rw [e]
  exact all _
def OkP : Pt → Prop
  | .flat k w es => IsNm w ∧ ((k = "source" ∧ es = []) ∨ ((k = "plain" ∨ k = "odd" ∨ k = "keep") ∧ ∃ f e, es = [f, e] ∧ IsNm f ∧ IsNm e) ∨ (k = "pair" ∧ ∃ f e g, es = [f, e, g] ∧ IsNm f ∧ IsNm e ∧ IsNm g))
  | .mix w ts => IsNm w ∧ ts.length ≤ 6 ∧ ∀ t ∈ ts, SmT t ∧ IsNm t.a
  | .use w p es => IsNm w ∧ IsNm p ∧ es.length ≤ 4 ∧ ∀ e ∈ es, IsNm e
theorem PtAt.wr {H : Hp} {D : Addr} {us vs : List V} {v : V} {p : Pt} (hD : H D = some (.lst us)) (h : PtAt H v p) : PtAt (upd H D (.lst vs)) v p :=
  h.tups fun a xs e => by rw [upd_ne (ne_of e hD (by intro z; cases z))]; exact e
def partsW : List Pt → List Str
  | [] => []
  | p :: r => ptW p ++ (";" : Str) :: partsW r
theorem psW_rest {ps : List Pt} : ∀ (k j : Nat), j + k = ps.length → psW ps ps.length = psW ps j ++ partsW (ps.drop j)
  | 0, j, h => by
    have e : j = ps.length := by omega
    subst e
    rw [List.drop_length]
    show _ = _ ++ []
    rw [List.append_nil]
  | k + 1, j, h => by
    have hj : j < ps.length := by omega
    rw [psW_rest k (j + 1) (by omega), psW_succ (List.getElem?_eq_getElem hj), List.drop_eq_getElem_cons hj]
    rw [List.append_assoc]
    show psW ps j ++ (ptW ps[j] ++ [(";" : Str)] ++ partsW (ps.drop (j + 1))) = psW ps j ++ (ptW ps[j] ++ (";" : Str) :: partsW (ps.drop (j + 1)))
    rw [List.append_assoc]
    rfl
theorem netW_eq (ps : List Pt) (os : List Str) : netW ps os = partsW ps ++ (">" : Str) :: os := by
  unfold netW
  rw [psW_rest (ps := ps) ps.length 0 (by omega), List.append_assoc]
  rfl
/-! no blank in a word -/
def NoSp (l : List Str) : Prop := ∀ z ∈ l, 32 ∉ tl z
theorem NoSp.app {l m : List Str} (h : NoSp l) (g : NoSp m) : NoSp (l ++ m) := fun z hz => (List.mem_append.mp hz).elim (h z) (g z)
theorem NoSp.cons {x : Str} {l : List Str} (h : 32 ∉ tl x) (g : NoSp l) : NoSp (x :: l) := fun z hz => (List.mem_cons.mp hz).elim (fun e => by rw [e]; exact h) (g z)
theorem NoSp.nil : NoSp [] := fun z hz => nomatch hz
theorem IsNm.sp {z : Str} (h : IsNm z) : 32 ∉ tl z := fun hz => absurd (h.low 32 hz) (by decide +kernel)
theorem IsNm.gt {z : Str} (h : IsNm z) : ¬ z = (">" : Str) := fun e => by
  rw [e] at h
  exact absurd (h.low 62 (by decide +kernel)) (by decide +kernel)
theorem dec_sp {i : Int} (h0 : -99 ≤ i) (h1 : i ≤ 99) : 32 ∉ tl (dec i) := by
  have all : ∀ k : Fin 199, 32 ∉ tl (dec ((k.val : Int) - 99)) := by decide +kernel
  have e : i = (((⟨(i + 99).toNat, by omega⟩ : Fin 199).val : Nat) : Int) - 99 := by
    show i = ((i + 99).toNat : Int) - 99
    omega
  rw [e]
  exact all _
theorem bare_sp {t : Tm} (h : SmT t) (n : IsNm t.a) : NoSp (bare t) := by
  have d0 := h.d0
  have d1 := h.d1
  unfold bare
  refine NoSp.app (.cons (dec_sp h.n0 h.n1) (.cons n.sp .nil)) ?_
  by_cases e : t.d = 0
  · rw [if_pos e]; exact .nil
  · rw [if_neg e]; exact .cons (by decide +kernel) (.cons (dec_sp (by omega) (by omega)) .nil)
theorem comma_sp : ∀ {ts : List Tm}, (∀ t ∈ ts, SmT t ∧ IsNm t.a) → NoSp (commaW ts)
  | [], _ => .nil
  | t :: r, h => .cons (by decide +kernel) ((bare_sp (h t (List.mem_cons_self ..)).1 (h t (List.mem_cons_self ..)).2).app (comma_sp fun u hu => h u (List.mem_cons_of_mem _ hu)))
theorem tms_sp : ∀ {ts : List Tm}, (∀ t ∈ ts, SmT t ∧ IsNm t.a) → NoSp (tmsW ts ts.length)
  | [], _ => .nil
  | t :: r, h => by
    rw [tmsW_cons]
    exact (bare_sp (h t (List.mem_cons_self ..)).1 (h t (List.mem_cons_self ..)).2).app (comma_sp fun u hu => h u (List.mem_cons_of_mem _ hu))
theorem names_sp {l : List Str} (h : ∀ z ∈ l, IsNm z) : NoSp l := fun z hz => (h z hz).sp
theorem pt_sp : ∀ {p : Pt}, OkP p → NoSp (ptW p)
  | .flat k w es, ⟨nw, h⟩ => by
    show NoSp (w :: k :: es)
    refine .cons nw.sp ?_
    rcases h with ⟨e, rfl⟩ | ⟨e, fn, en, rfl, nf, ne⟩ | ⟨e, fn, en, gn, rfl, nf, ne, ng⟩
    · rw [e]; exact .cons (by decide +kernel) .nil
    · refine .cons ?_ (.cons nf.sp (.cons ne.sp .nil))
      rcases e with e | e | e <;> (rw [e]; decide +kernel)
    · rw [e]; exact .cons (by decide +kernel) (.cons nf.sp (.cons ne.sp (.cons ng.sp .nil)))
  | .mix w ts, ⟨nw, _, h⟩ => .cons nw.sp (.cons (by decide +kernel) (tms_sp h))
  | .use w p es, ⟨nw, np, _, h⟩ => .cons nw.sp (.cons (by decide +kernel) (.cons np.sp (names_sp h)))
theorem parts_sp : ∀ {ps : List Pt}, (∀ p ∈ ps, OkP p) → NoSp (partsW ps)
  | [], _ => .nil
  | p :: r, h => (pt_sp (h p (List.mem_cons_self ..))).app (.cons (by decide +kernel) (parts_sp fun u hu => h u (List.mem_cons_of_mem _ hu)))
theorem pt_head : ∀ {p : Pt}, OkP p → ∃ z R, ptW p = z :: R ∧ IsNm z
  | .flat k w es, ⟨nw, _⟩ => ⟨w, _, rfl, nw⟩
  | .mix w ts, ⟨nw, _⟩ => ⟨w, _, rfl, nw⟩
  | .use w p es, ⟨nw, _⟩ => ⟨w, _, rfl, nw⟩
theorem joinL_len (S : List Nat) : ∀ l : List (List Nat), (joinL S l).length ≤ (l.map List.length).sum + l.length * S.length
  | [] => Nat.zero_le _
  | [p] => by
    show p.length ≤ _
    rw [List.map_cons, List.sum_cons]
    omega
  | p :: q :: r => by
    show (p ++ (S ++ joinL S (q :: r))).length ≤ _
    have ih := joinL_len S (q :: r)
    rw [List.length_append, List.length_append, List.map_cons, List.sum_cons, List.length_cons, Nat.add_mul]
    omega
theorem join_len {l : List Str} {n : Nat} (h : Lo l n) : (Txt.join " " l).length ≤ 11 * n := by
  rw [tlen, join_eq, tl_join]
  have h1 := joinL_len (tl " ") (l.map tl)
  have e1 : (tl ((" " : String) : Str)).length = 1 := by decide +kernel
  have e2 : ((l.map tl).map List.length).sum = (l.map (·.length)).sum := by
    rw [List.map_map]
    congr 1
  have h2 := lo_sum h.2
  have h3 := h.1
  rw [e1, e2, List.length_map] at h1
  omega
theorem split_net {ps : List Pt} {os : List Str} (h : ∀ p ∈ ps, OkP p) (g : ∀ z ∈ os, IsNm z) : Txt.split (Txt.join " " (netW ps os)) " " = partsW ps ++ (">" : Str) :: os := by
  rw [netW_eq]
  refine split_join (s := 32) (S := []) (by decide +kernel) (by decide +kernel) ?_ ((parts_sp h).app (.cons (by decide +kernel) (names_sp g)))
  intro e
  have e2 := congrArg List.length e
  rw [List.length_append, List.length_cons, List.length_nil] at e2
  omega
theorem Same.wd {x : Addr} {H H1 H2 : Hp} (s : Same H H1) (hx : H x = none) (k : Kp x H1 H2) : Same H H2 := fun a o e => k a o (s a o e) (ne_of_none e hx)
/-! ### the law's helpers -/
abbrev sMixed : Stmt := top 68
abbrev sTerm : Stmt := top 70
def spMixed (K : PySem.W.Frag) : Sp := fun vs H Q _ => ∃ (b c a : Addr) (xs : List V), vs = [.ref b, .ref a] ∧ Bag H b c ∧ a ≠ b ∧ SqL K H a xs ∧ xs.length ≤ 1000 ∧
  ∀ (l : Addr) (ys : List V) (H' : Hp), ys.Perm xs → Bag H' b c → Kp b H H' → H l = none → l ≠ b → H' l = some (.lst ys) → Q (.ref l) H'
theorem scMixed : FnScope ["_law_bag_here", "_law_things", "_law_found", "_law_thing"] ["_law_bag_here", "_law_things"] (defScope sMixed) := ⟨rfl, rfl, rfl, by decide +kernel, rfl, by decide +kernel, by decide +kernel⟩
theorem ins_perm {xs ys : List V} {y : V} {i : Nat} (k : Nat) (h : ys.Perm (xs.take i)) (hy : xs[i]? = some y) : (ys.take k ++ [y] ++ ys.drop k).Perm (xs.take (i + 1)) := by
  rw [List.take_add_one, hy]
  have h1 : (ys.take k ++ [y] ++ ys.drop k).Perm (y :: ys) := by
    rw [List.append_assoc]
    have h2 : (ys.take k ++ ([y] ++ ys.drop k)).Perm (y :: (ys.take k ++ ys.drop k)) := List.perm_middle
    rw [List.take_append_drop] at h2
    exact h2
  refine h1.trans ((List.Perm.cons y h).trans ?_)
  show (y :: List.take i xs).Perm (List.take i xs ++ [y])
  exact (List.perm_append_singleton y (List.take i xs)).symm
theorem ok_mixed {f g : Addr} {fd gd : FuncData} (F : Fun K "_law_mixed" "_law_mixed" sMixed f fd) (G : Df P w K mg base 1 g gd "_law_pull" ["_law_bag_here", "_law_many"] spPull) (mlen : mg "len" = none) :
    FnOk P w K mg base CX0 2 f fd ["_law_bag_here", "_law_things"] (spMixed K) := by
  refine F.ok scMixed (fun vs H Q E h => ?_) (fun cdv A outer s H vs Q E hr h => ?_)
  · obtain ⟨b, c, a, xs, rfl, _⟩ := h
    rfl
  obtain ⟨b, c, a, xs, rfl, B, nab, ha, hl, q⟩ := h
  refine ⟨_, pss_cons (ps_set (i := 2) scMixed.nd rfl (Or.inl rfl) (pe_lst pa_nil))
    (pss_cons (ps_for PassesOwn.never rfl (pi_list (pv 1)) (pg_name (i := 3) scMixed.nd rfl (Or.inl rfl))
      (pss_one (ps_expr (pe_bm PySem.F.plainAttrs_list PySem.F.slot_list_insert PySem.F.type_list_insert mt_insert (pv 2) (pa_cons (pe_call G.ok hr (by rfl) G.m G.kp G.b .nil pass0 (pa_cons (pv 0) (pa_cons (pe_op op_add (pe_callB call_len_seq (by rfl) mlen PySem.boot_len (pa_cons (pv 2) pa_nil)) pe_int) pa_nil))) (pa_cons (pv 3) pa_nil))))))
    (pss_one (ps_ret (pv 2)))), ?_⟩
  refine ⟨Nat.zero_le _, fun L hL => ?_⟩
  have nL := B.ne_new hL
  have k0 : Kp b H (upd H L (.lst [])) := (Kp.refl b H).wr hL _
  refine ⟨.ref a, rfl, a, rfl, ⟨_, k0.seqL nab ha⟩, for_list (K := K) (a := a) (xs := xs) (fun i σ H2 => ∃ v3 ys, σ = [some (.ref b), some (.ref a), some (.ref L), v3] ∧ Bag H2 b c ∧ Kp b H H2 ∧ ys.Perm (xs.take i) ∧ H2 L = some (.lst ys))
    ⟨none, [], rfl, B.upd_new hL _, k0, List.Perm.refl _, upd_same⟩ (fun i σ H2 _ ⟨_, _, _, _, k2, _⟩ => k2.seqL nab ha) ?_ ?_⟩
  · rintro i x σ H2 hx ⟨v3, ys, rfl, B2, k2, hp, hL2⟩
    have hi : i < xs.length := (List.getElem?_eq_some_iff.mp hx).1
    have hyl : ys.length = i := by rw [hp.length_eq, List.length_take]; omega
    have h2000 : (2000 : Nat) ≤ sizeLine := by decide
    refine ⟨.ref L, rfl, .inl ⟨rfl, _, SqL.of hL2⟩, .ref b, rfl, .ref L, rfl, L, _, rfl, .inl (SqL.of hL2), _, _, rfl, rfl, b, c, _, rfl, B2, by omega, by omega, fun d H3 d0 d1 B3 k3 => ?_⟩
    refine ⟨x, rfl, L, ys, d, x, rfl, rfl, k3 _ _ hL2 nL.1.symm, by omega, d0, by omega, ?_⟩
    exact ⟨_, _, rfl, B3.wr nL _, (k2.trans k3).wr hL _, ins_perm d.toNat hp hx, upd_same⟩
  · rintro σ H2 ⟨v3, ys, rfl, B2, k2, hp, hL2⟩
    rw [List.take_length] at hp
    exact ⟨.ref L, rfl, q L ys H2 hp B2 k2 hL nL.1.symm hL2⟩
/-- a list of names at a -/
structure NmL (H : Hp) (b a : Addr) (ws : List Str) : Prop where
  ne : a ≠ b
  at_ : H a = some (.lst (ws.map V.str))
  nm : ∀ z ∈ ws, IsNm z
  l : ws.length ≤ 1000
theorem NmL.kp {H H' : Hp} {b a : Addr} {ws : List Str} (h : NmL H b a ws) (k : Kp b H H') : NmL H' b a ws := ⟨h.ne, k _ _ h.at_ h.ne, h.nm, h.l⟩
theorem NmL.menu {H : Hp} {b a : Addr} {ws : List Str} (h : NmL H b a ws) : Menu K H b (.ref a) (ws.map V.str) := .inl ⟨a, rfl, h.ne, SqL.of h.at_⟩
theorem IsNm.ok {z : Str} (h : IsNm z) : PyData.strOk z = true := by
  have all : ∀ c ∈ letters.cps.toList, c < 0x110000 := by decide +kernel
  unfold PyData.strOk
  rw [← Array.all_toList, List.all_eq_true]
  intro c hc
  exact decide_eq_true (all c (h.low c hc))
theorem dpAll_strs {H : Hp} : ∀ ws : List Str, DpAll K H (ws.map V.str) (ws.map PyData.str)
  | [] => .nil
  | x :: r => .cons (.str x) (dpAll_strs r)
theorem shaped_strs {ws : List Str} (h : ∀ z ∈ ws, IsNm z) : SeqAt.shaped (.list (ws.map PyData.str)) = true := by
  have lay : ∀ ws : List Str, (∀ z ∈ ws, IsNm z) → PyData.canLayAll0 (ws.map PyData.str) = true ∧ PyData.depthAll (ws.map PyData.str) = 0 := by
    intro ws
    induction ws with
    | nil => intro _; exact ⟨rfl, rfl⟩
    | cons x r ih =>
      intro h
      obtain ⟨h1, h2⟩ := ih fun z hz => h z (List.mem_cons_of_mem _ hz)
      refine ⟨?_, ?_⟩
      · show (PyData.strOk x && PyData.canLayAll0 (r.map PyData.str)) = true
        rw [(h x (List.mem_cons_self ..)).ok, h1]
        rfl
      · show max 0 (PyData.depthAll (r.map PyData.str)) = 0
        rw [h2]
        rfl
  obtain ⟨h1, h2⟩ := lay ws h
  show (PyData.canLayAll0 (ws.map PyData.str) && decide (PyData.depthAll (ws.map PyData.str) + 1 ≤ 64)) = true
  rw [h1, h2]
  rfl
theorem any_nm {H : Hp} {b c u : Addr} {us : List Str} {Q : VK} (B : Bag H b c) (hu : NmL H b u us) (h0 : 0 < us.length) (q : ∀ (a : Str) (H' : Hp), IsNm a → Bag H' b c → Kp b H H' → Q (.str a) H') : spAny K [.ref b, .ref u] H Q E0 :=
  ⟨b, c, .ref u, us.map V.str, rfl, B, hu.menu, by rw [List.length_map]; exact h0, by rw [List.length_map]; have := hu.l; omega, fun y H4 hy B4 k4 => by
    obtain ⟨a, ha, rfl⟩ := List.mem_map.mp hy
    exact q a H4 (hu.nm a ha) B4 k4⟩
def spTerm : Sp := fun vs H Q _ => ∃ (b c e v : Addr) (es ws : List Str), vs = [.ref b, .ref e, .ref v] ∧ Bag H b c ∧ NmL H b e es ∧ NmL H b v ws ∧ 0 < ws.length ∧
  ∀ (x : V) (t : Tm) (H' : Hp), TmAt H' x t → SmT t → IsNm t.a → Bag H' b c → Kp b H H' → Q x H'
theorem scTerm : FnScope ["_law_bag_here", "_law_earlier", "_law_every", "_law_factor", "_law_delay"] ["_law_bag_here", "_law_earlier", "_law_every"] (defScope sTerm) := ⟨rfl, rfl, rfl, by decide +kernel, rfl, by decide +kernel, by decide +kernel⟩
theorem ok_term {f g ga : Addr} {fd gd ad : FuncData} (F : Fun K "_law_term" "_law_term" sTerm f fd) (G : Df P w K mg base 1 g gd "_law_pull" ["_law_bag_here", "_law_many"] spPull) (GA : Df P w K mg base 2 ga ad "_law_any" ["_law_bag_here", "_law_things"] (spAny K)) (mmax : mg "max" = none) :
    FnOk P w K mg base CX0 3 f fd ["_law_bag_here", "_law_earlier", "_law_every"] spTerm := by
  refine F.ok scTerm (fun vs H Q E h => ?_) (fun cdv A outer s H vs Q E hr h => ?_)
  · obtain ⟨b, c, e, v, es, ws, rfl, _⟩ := h
    rfl
  obtain ⟨b, c, e, v, es, ws, rfl, B, he, hv, h0, q⟩ := h
  have hr1 : Room 1 _ := hr.mono (by decide)
  have hu := hr.units
  refine ⟨_, C8.pss_cut (ps_set (i := 3) scTerm.nd rfl (Or.inl rfl) (pe_ifExp (pt_cmpR op_gt (pe_call G.ok hr1 (by rfl) G.m G.kp G.b .nil pass0 (pa_cons (pv 0) (pa_cons pe_int pa_nil))) pe_int (nomark _))
      (pe_op op_sub (pe_call G.ok hr1 (by rfl) G.m G.kp G.b .nil pass0 (pa_cons (pv 0) (pa_cons pe_int pa_nil))) pe_int)
      (pe_call GA.ok hr (by rfl) GA.m GA.kp GA.b .nil pass0 (pa_cons (pv 0) (pa_cons (pe_lst (pa_cons (pe_un un_neg pe_int) (pa_cons pe_int (pa_cons (pe_un un_neg pe_int) (pa_cons pe_int pa_nil))))) pa_nil)))))
    (pss_cons (ps_set (i := 4) scTerm.nd rfl (Or.inl rfl) (pe_call GA.ok hr (by rfl) GA.m GA.kp GA.b .nil pass0 (pa_cons (pv 0) (pa_cons (pe_lst (pa_cons pe_int (pa_cons pe_int (pa_cons pe_int (pa_cons pe_int (pa_cons pe_int (pa_cons pe_int (pa_cons pe_int (pa_cons pe_int pa_nil))))))))) pa_nil))))
    (pss_cons (ps_if (PW.pt (pw_and (pt_cmpR op_eq (pv 4) pe_int (nomark _)) (pw_and1 (pt_cmpR (op_neD hu) (pv 1) (pe_lst pa_nil) (nomark _)))))
      (pss_one (ps_ret (pe_tup (pa_cons (pv 3) (pa_cons pe_int (pa_cons (pe_call GA.ok hr (by rfl) GA.m GA.kp GA.b .nil pass0 (pa_cons (pv 0) (pa_cons (pv 1) pa_nil))) pa_nil)))))) pss_nil)
    (pss_one (ps_ret (pe_tup (pa_cons (pv 3) (pa_cons (pe_callB (cr_max rfl) (by rfl) mmax (by decide +kernel) (pa_cons (pe_lst (pa_cons (pv 4) (pa_cons pe_int pa_nil))) pa_nil)) (pa_cons (pe_call GA.ok hr (by rfl) GA.m GA.kp GA.b .nil pass0 (pa_cons (pv 0) (pa_cons (pv 2) pa_nil))) pa_nil)))))))), ?_⟩
  refine ⟨fun σ' H1 => ∃ n, σ' = [some (.ref b), some (.ref e), some (.ref v), some (.int n), none] ∧ -99 ≤ n ∧ n ≤ 99 ∧ Bag H1 b c ∧ Kp b H H1, ?_, ?_⟩
  · refine ⟨.ref b, rfl, b, c, 8, rfl, B, by decide, by decide, fun d H1 d0 d1 B1 k1 => ?_⟩
    refine ⟨_, _, rfl, rfl, _, rfl, ?_⟩
    refine ite2 (fun _ => ?_) (fun _ => ?_)
    · refine ⟨.ref b, rfl, b, c, 7, rfl, B1, by decide, by decide, fun d2 H2 e0 e1 B2 k2 => ?_⟩
      refine ⟨_, _, rfl, rfl, ?_⟩
      exact ⟨_, rfl, by omega, by omega, B2, k1.trans k2⟩
    · refine ⟨.ref b, rfl, 99, rfl, 10, rfl, (by show 4 ≤ sizeLine; decide), fun m hm => ?_⟩
      refine ⟨b, c, .ref m, ([-99, 99, -10, 47] : List Int).map V.int, rfl, B1.upd_new hm _, .inl ⟨m, rfl, B1.fresh hm, SqL.of upd_same⟩, by decide, by decide, fun y H2 hy B2 k2 => ?_⟩
      obtain ⟨n, hn, rfl⟩ := List.mem_map.mp hy
      have bd : ∀ n ∈ ([-99, 99, -10, 47] : List Int), -99 ≤ n ∧ n ≤ 99 := by decide
      exact ⟨n, rfl, (bd n hn).1, (bd n hn).2, B2, (k1.new hm _).trans k2⟩
  rintro σ' H1 ⟨n, rfl, n0, n1, B1, k1⟩
  refine ⟨.ref b, rfl, (by show 8 ≤ sizeLine; decide), fun m hm => ?_⟩
  refine ⟨b, c, .ref m, ([0, 0, 0, 1, 1, 2, 3, 4] : List Int).map V.int, rfl, B1.upd_new hm _, .inl ⟨m, rfl, B1.fresh hm, SqL.of upd_same⟩, by decide, by decide, fun y H2 hy B2 k2' => ?_⟩
  obtain ⟨d, hd, rfl⟩ := List.mem_map.mp hy
  have bd : ∀ n ∈ ([0, 0, 0, 1, 1, 2, 3, 4] : List Int), 0 ≤ n ∧ n ≤ 4 := by decide
  obtain ⟨d0, d1⟩ := bd d hd
  have k2 : Kp b H H2 := (k1.new hm _).trans k2'
  -- the last way: (factor, max([delay, 1]), any(bag, every))
  refine ⟨.int d, rfl, rfl, _, rfl, ?_⟩
  have fin : ∀ (H3 : Hp), Bag H3 b c → Kp b H H3 → tRet (tTup (tCons (tVar 3) (tCons (tCB (rMax K) (tCons (tLst (tCons (tVar 4) (tCons (tC (.int 1)) tNil))) tNil)) (tCons (tCall (spAny K) [] E0 (tCons (tVar 0) (tCons (tVar 2) tNil))) tNil))))
      { nx := fun _ H' => Q .non H', rt := Q } [some (.ref b), some (.ref e), some (.ref v), some (.int n), some (.int d)] H3 := fun H3 B3 k3 => by
    refine ⟨_, rfl, _, rfl, (by show 2 ≤ sizeLine; decide), fun m2 hm2 => ⟨m2, [d, 1], rfl, SqL.of upd_same, (by show 0 < 2; decide), fun mx hmx hle => ?_⟩⟩
    have m1 : 1 ≤ mx := hle 1 (List.mem_cons_of_mem _ (List.mem_cons_self ..))
    have m4 : mx ≤ 4 := by
      rcases List.mem_cons.mp hmx with e | hmx
      · omega
      · rw [List.mem_singleton.mp hmx]; decide
    refine ⟨_, rfl, _, rfl, any_nm (B3.upd_new hm2 _) (hv.kp (k3.new hm2 _)) h0 fun a H4 na B4 k4 => ?_⟩
    refine ⟨(by show 3 ≤ sizeLine; decide), fun t ht => ?_⟩
    exact q (.ref t) ⟨n, mx, a⟩ _ ⟨t, rfl, upd_same⟩ ⟨n0, n1, by show 0 ≤ mx; omega, m4, by show a.length ≤ 10; have := na.l4; omega⟩ na (B4.upd_new ht _) (((k3.new hm2 _).trans k4).new ht _)
  refine ite2 (fun c0 => ?_) (fun c0 => ?_)
  · refine ⟨.ref e, rfl, Nat.zero_le _, fun p hp => ?_⟩
    refine ⟨_, _, .lst (SqL.of ((he.kp (k2.new hp _)).at_)) (dpAll_strs es), .lst (SqL.of upd_same) .nil, shaped_strs he.nm, rfl, _, rfl, ?_⟩
    refine ite2 (fun c1 => ?_) (fun c1 => ?_)
    · have es0 : 0 < es.length := by
        cases es with
        | nil => cases c1
        | cons x r => exact Nat.succ_pos _
      refine ⟨_, rfl, _, rfl, _, rfl, any_nm (B2.upd_new hp _) (he.kp (k2.new hp _)) es0 fun a H4 na B4 k4 => ?_⟩
      refine ⟨(by show 3 ≤ sizeLine; decide), fun t ht => ?_⟩
      exact q (.ref t) ⟨n, 0, a⟩ _ ⟨t, rfl, upd_same⟩ ⟨n0, n1, by show (0 : Int) ≤ 0; decide, by show (0 : Int) ≤ 4; decide, by show a.length ≤ 10; have := na.l4; omega⟩ na (B4.upd_new ht _) (((k2.new hp _).trans k4).new ht _)
    · exact fin _ (B2.upd_new hp _) (k2.new hp _)
  · exact fin _ B2 k2
abbrev sPart : Stmt := top 71
abbrev sParts : Stmt := top 72
abbrev sBoxes : Stmt := top 73
abbrev sUse : Stmt := top 35
abbrev kinds4 : List Str := ["plain", "odd", "keep", "pair"]
def BxAt (H : Hp) (v : V) (p : Str × Str) : Prop := ∃ t, v = .ref t ∧ H t = some (.tup [.str p.1, .str p.2])
theorem BxAt.tups {H H' : Hp} (s : Tups H H') {v : V} {p : Str × Str} (h : BxAt H v p) : BxAt H' v p := by
  obtain ⟨t, e, h⟩ := h
  exact ⟨t, e, s _ _ h⟩
/-- a list of pairs of a kind and a name at a -/
structure BxL (H : Hp) (b a : Addr) (bs : List V) (fs : List (Str × Str)) : Prop where
  ne : a ≠ b
  at_ : H a = some (.lst bs)
  all : All2 (BxAt H) bs fs
  ok : ∀ p ∈ fs, p.1 ∈ kinds4 ∧ IsNm p.2
  l : fs.length ≤ 1000
theorem BxL.kp {H H' : Hp} {b c a : Addr} {bs : List V} {fs : List (Str × Str)} (h : BxL H b a bs fs) (B : Bag H b c) (k : Kp b H H') : BxL H' b a bs fs :=
  ⟨h.ne, k _ _ h.at_ h.ne, h.all.mono fun _ _ z => z.tups (k.tups B), h.ok, h.l⟩
def spBoxes : Sp := fun vs H Q _ => ∃ (b c a : Addr) (ws : List Str), vs = [.ref b, .ref a] ∧ Bag H b c ∧ NmL H b a ws ∧
  ∀ (x : Addr) (bs : List V) (fs : List (Str × Str)) (H' : Hp), BxL H' b x bs fs → fs.length = ws.length → Bag H' b c → Kp b H H' → H x = none → Q (.ref x) H'
theorem scBoxes : FnScope ["_law_bag_here", "_law_words_here", "_law_word"] ["_law_bag_here", "_law_words_here"] (defScope sBoxes) := ⟨rfl, rfl, rfl, by decide +kernel, rfl, by decide +kernel, by decide +kernel⟩
theorem ok_boxes {f ga : Addr} {fd ad : FuncData} (F : Fun K "_law_boxes" "_law_boxes" sBoxes f fd) (GA : Df P w K mg base 2 ga ad "_law_any" ["_law_bag_here", "_law_things"] (spAny K)) :
    FnOk P w K mg base CX0 3 f fd ["_law_bag_here", "_law_words_here"] spBoxes := by
  refine F.ok scBoxes (fun vs H Q E h => ?_) (fun cdv A outer s H vs Q E hr h => ?_)
  · obtain ⟨b, c, a, ws, rfl, _⟩ := h
    rfl
  obtain ⟨b, c, a, ws, rfl, B, ha, q⟩ := h
  refine ⟨_, pss_one (ps_ret (pe_lc (own := [("_law_word", 2)]) (g := gName 2) rfl scBoxes.nd (pi_list (pv 1)) (blkOk_by (own := [("_law_word", 2)]) (N := ["_law_bag_here", "_law_words_here", "_law_word"]) (sc := defScope sBoxes) (by decide +kernel))
    (fun _ _ _ _ _ => pg_name (i := 2) scBoxes.nd rfl (Or.inl rfl) (Or.inr rfl)) (fun _ _ _ _ _ => pts_nil)
    (fun _ _ _ _ _ => pe_tup (pa_cons (pe_call GA.ok hr (by rfl) GA.m GA.kp GA.b .nil pass0 (pa_cons (pv 0) (pa_cons (pe_lst (pa_cons pe_str (pa_cons pe_str (pa_cons pe_str (pa_cons pe_str pa_nil))))) pa_nil))) (pa_cons (pv 2) pa_nil))))), ?_⟩
  refine ⟨.ref a, rfl, a, rfl, ⟨_, SqL.of ha.at_⟩, fun D hD => ?_⟩
  have nD := B.ne_new hD
  refine lc_list (K := K) (a := a) (xs := ws.map V.str) (fun i H2 => Bag H2 b c ∧ Kp b H H2 ∧ ∃ bs fs, All2 (BxAt H2) bs fs ∧ fs.length = i ∧ (∀ p ∈ fs, p.1 ∈ kinds4 ∧ IsNm p.2) ∧ H2 D = some (.lst bs))
    ⟨B.upd_new hD _, (Kp.refl b H).wr hD _, [], [], .nil, rfl, (fun p hp => nomatch hp), upd_same⟩ (fun i H2 _ ⟨_, k2, _⟩ => SqL.of (ha.kp k2).at_) (fun i x H2 hx ⟨B2, k2, bs, fs, hA, hl, hok, hD2⟩ => ?_) (fun H2 ⟨B2, k2, bs, fs, hA, hl, hok, hD2⟩ => ?_)
  · rw [List.getElem?_map] at hx
    have hi : i < ws.length := by
      cases e : ws[i]? with
      | none => rw [e] at hx; cases hx
      | some z => exact (List.getElem?_eq_some_iff.mp e).1
    rw [List.getElem?_eq_getElem hi] at hx
    cases Option.some.inj hx
    have hz := ha.nm _ (List.getElem_mem hi)
    have hwl := ha.l
    have hbl : bs.length = i := by rw [hA.1, hl]
    refine ⟨rfl, .ref b, rfl, (by show 4 ≤ sizeLine; decide), fun m hm => ?_⟩
    refine ⟨b, c, .ref m, kinds4.map V.str, rfl, B2.upd_new hm _, .inl ⟨m, rfl, B2.fresh hm, SqL.of upd_same⟩, by decide, by decide, fun y H3 hy B3 k3 => ?_⟩
    obtain ⟨kd, hkd, rfl⟩ := List.mem_map.mp hy
    refine ⟨_, rfl, (by show 2 ≤ sizeLine; decide), fun t ht => ?_⟩
    have k23 : Kp b H2 (upd H3 t (.tup [.str kd, .str ws[i]])) := (((Kp.refl b H2).new hm _).trans k3).new ht _
    have B4 : Bag (upd H3 t (.tup [.str kd, .str ws[i]])) b c := B3.upd_new ht _
    refine ⟨bs, k23 _ _ hD2 nD.1.symm, by rw [hbl]; exact small1000 (by omega), B4.wr nD _, (k2.trans k23).wr hD _, bs ++ [.ref t], fs ++ [(kd, ws[i])], ?_, by rw [List.length_append, hl]; rfl, fun p hp => ?_, upd_same⟩
    · have hDt : t ≠ D := fun e => by
        have h1 := k23 _ _ hD2 nD.1.symm
        rw [← e, upd_same] at h1
        cases h1
      refine (hA.mono fun _ _ z => ?_).snoc ⟨t, rfl, by rw [upd_ne hDt]; exact upd_same⟩
      obtain ⟨t', e, h'⟩ := z.tups (k23.tups B2)
      refine ⟨t', e, ?_⟩
      rw [upd_ne (ne_of h' (k23 _ _ hD2 nD.1.symm) (by intro z; cases z))]
      exact h'
    · rcases List.mem_append.mp hp with h | h
      · exact hok p h
      · rw [List.mem_singleton.mp h]
        exact ⟨hkd, hz⟩
  · rw [List.length_map] at hl
    exact q D bs fs H2 ⟨nD.1.symm, hD2, hA, hok, by have := ha.l; omega⟩ hl B2 k2 hD
theorem All2.tail {α β : Type} {R : α → β → Prop} {x : α} {y : β} {xs : List α} {ys : List β} (h : All2 R (x :: xs) (y :: ys)) : R x y ∧ All2 R xs ys :=
  ⟨h.2 0 x y rfl rfl, Nat.succ.inj h.1, fun i u v hu hv => h.2 (i + 1) u v hu hv⟩
abbrev bxD (p : Str × Str) : PyData := .tuple [.str p.1, .str p.2]
theorem dpAll_bx {H : Hp} : ∀ {bs : List V} {fs : List (Str × Str)}, All2 (BxAt H) bs fs → DpAll K H bs (fs.map bxD)
  | [], [], _ => .nil
  | [], _ :: _, h => absurd h.1 (by simp)
  | _ :: _, [], h => absurd h.1 (by simp)
  | v :: bs, p :: fs, h => by
    obtain ⟨⟨t, rfl, ht⟩, h2⟩ := h.tail
    exact .cons (.tup (SqT.of ht) (.cons (.str _) (.cons (.str _) .nil))) (dpAll_bx h2)
theorem kinds_ok {k : Str} (h : k ∈ kinds4) : PyData.strOk k = true ∧ ¬ k = "mix" ∧ ¬ k = "use" ∧ k.length ≤ 10 := by
  have all : ∀ k ∈ kinds4, PyData.strOk k = true ∧ ¬ k = "mix" ∧ ¬ k = "use" ∧ k.length ≤ 10 := by decide +kernel
  exact all k h
theorem shaped_bx {fs : List (Str × Str)} (h : ∀ p ∈ fs, p.1 ∈ kinds4 ∧ IsNm p.2) : SeqAt.shaped (.list (fs.map bxD)) = true := by
  have lay : ∀ fs : List (Str × Str), (∀ p ∈ fs, p.1 ∈ kinds4 ∧ IsNm p.2) → PyData.canLayAll0 (fs.map bxD) = true ∧ PyData.depthAll (fs.map bxD) ≤ 1 := by
    intro fs
    induction fs with
    | nil => intro _; exact ⟨rfl, Nat.zero_le _⟩
    | cons x r ih =>
      intro h
      obtain ⟨h1, h2⟩ := ih fun z hz => h z (List.mem_cons_of_mem _ hz)
      obtain ⟨g1, g2⟩ := h x (List.mem_cons_self ..)
      refine ⟨?_, ?_⟩
      · show ((PyData.strOk x.1 && (PyData.strOk x.2 && true)) && PyData.canLayAll0 (r.map bxD)) = true
        rw [(kinds_ok g1).1, g2.ok, h1]
        rfl
      · show max (max 0 (max 0 0) + 1) (PyData.depthAll (r.map bxD)) ≤ 1
        omega
  obtain ⟨h1, h2⟩ := lay fs h
  show (PyData.canLayAll0 (fs.map bxD) && decide (PyData.depthAll (fs.map bxD) + 1 ≤ 64)) = true
  rw [h1, decide_eq_true (by omega)]
  rfl
theorem flat_ok {kd f : Str} {ds : List Str} (g1 : kd ∈ kinds4) (g2 : IsNm f) (dn : ∀ z ∈ ds, IsNm z) (h : (kd = "pair" ∧ ds.length = 2) ∨ (¬ kd = "pair" ∧ ds.length = 1)) :
    (kd = "source" ∧ f :: ds = []) ∨ ((kd = "plain" ∨ kd = "odd" ∨ kd = "keep") ∧ ∃ x e, f :: ds = [x, e] ∧ IsNm x ∧ IsNm e) ∨ (kd = "pair" ∧ ∃ x e g, f :: ds = [x, e, g] ∧ IsNm x ∧ IsNm e ∧ IsNm g) := by
  rcases h with ⟨e, l⟩ | ⟨e, l⟩
  · match ds, l with
    | [a, b], _ => exact .inr (.inr ⟨e, f, a, b, rfl, g2, dn a (by simp), dn b (by simp)⟩)
  · match ds, l with
    | [a], _ =>
      refine .inr (.inl ⟨?_, f, a, rfl, g2, dn a (by simp)⟩)
      rcases List.mem_cons.mp g1 with h | g1
      · exact .inl h
      rcases List.mem_cons.mp g1 with h | g1
      · exact .inr (.inl h)
      rcases List.mem_cons.mp g1 with h | g1
      · exact .inr (.inr h)
      · exact absurd (List.mem_singleton.mp g1) e
def Pw : Pt → Str
  | .flat _ w _ => w
  | .mix w _ => w
  | .use w _ _ => w
abbrev partN : List Str := ["_law_bag_here", "_law_wire", "_law_earlier", "_law_every", "_law_boxes_here", "_law_kind", "_law_name", "_law_ends", "_law_k"]
abbrev partP : List Str := ["_law_bag_here", "_law_wire", "_law_earlier", "_law_every", "_law_boxes_here"]
def PairL (kd : Str) (n : Nat) : Prop := n ≤ 2 ∧ ((kd = "pair" ∧ n = 2) ∨ (¬ kd = "pair" ∧ n = 1))
def spPart : Sp := fun vs H Q _ => ∃ (b c e v x : Addr) (wire : Str) (es ws : List Str) (bs : List V) (fs : List (Str × Str)), vs = [.ref b, .str wire, .ref e, .ref v, .ref x] ∧ Bag H b c ∧ IsNm wire ∧ NmL H b e es ∧ NmL H b v ws ∧ 0 < ws.length ∧ BxL H b x bs fs ∧
  ∀ (y : V) (p : Pt) (H' : Hp), PtAt H' y p → SmP p → OkP p → Pw p = wire → Bag H' b c → Kp b H H' → Q y H'
theorem scPart : FnScope partN partP (defScope sPart) := ⟨rfl, rfl, rfl, by decide +kernel, rfl, by decide +kernel, by decide +kernel⟩
theorem ok_part {f g ga gt : Addr} {fd gd ad td : FuncData} (F : Fun K "_law_part" "_law_part" sPart f fd) (G : Df P w K mg base 1 g gd "_law_pull" ["_law_bag_here", "_law_many"] spPull) (GA : Df P w K mg base 2 ga ad "_law_any" ["_law_bag_here", "_law_things"] (spAny K))
    (GT : Df P w K mg base 3 gt td "_law_term" ["_law_bag_here", "_law_earlier", "_law_every"] spTerm) (mtuple : mg "tuple" = none) (mrange : mg "range" = none) : FnOk P w K mg base CX0 4 f fd partP spPart := by
  refine F.ok scPart (fun vs H Q E h => ?_) (fun cdv A outer s H vs Q E hr h => ?_)
  · obtain ⟨b, c, e, v, x, wire, es, ws, bs, fs, rfl, _⟩ := h
    rfl
  obtain ⟨b, c, e, v, x, wire, es, ws, bs, fs, rfl, B, hw, he, hv, h0, hb, q⟩ := h
  have hr1 : Room 1 _ := hr.mono (by decide)
  have hr2 : Room 2 _ := hr.mono (by decide)
  have hu := hr.units
  refine ⟨_, C8.pss_cut (ps_if (PW.pt (pw_and (pt_cmpR (op_neD hu) (pv 4) (pe_lst pa_nil) (nomark _)) (pw_and (pt_cmpR (op_neD hu) (pv 2) (pe_lst pa_nil) (nomark _)) (pw_and1 (pt_cmpR op_eq (pe_call G.ok hr1 (by rfl) G.m G.kp G.b .nil pass0 (pa_cons (pv 0) (pa_cons pe_int pa_nil))) pe_int (nomark _))))))
      (pss_cons (ps_asg (pe_call GA.ok hr2 (by rfl) GA.m GA.kp GA.b .nil pass0 (pa_cons (pv 0) (pa_cons (pv 4) pa_nil))) (pg_tup (n := 2) rfl (pgs_cons (pg_name (i := 5) scPart.nd rfl (Or.inl rfl)) (pgs_cons (pg_name (i := 6) scPart.nd rfl (Or.inl rfl)) pgs_nil))))
      (C8.pss_cut (ps_setLc (i := 7) (own := [("_law_k", 8)]) (g := gName 8) rfl scPart.nd rfl rfl (sw_true rfl rfl rfl (by decide +kernel)) (pi_range1 (by rfl) mrange (pa_cons (pe_ifExp (pt_cmpR op_eq (pv 5) pe_str (nomark _)) pe_int pe_int) pa_nil))
          (blkOk_by (own := [("_law_k", 8)]) (N := partN) (sc := defScope sPart) (by decide +kernel)) (fun _ _ _ _ _ => pg_name (i := 8) scPart.nd rfl (Or.inl rfl) (Or.inr rfl)) (fun _ _ _ _ _ => pts_nil)
          (fun _ _ _ _ _ => pe_call GA.ok hr2 (by rfl) GA.m GA.kp GA.b .nil pass0 (pa_cons (pv 0) (pa_cons (pv 2) pa_nil))))
      (pss_one (ps_ret (pe_callTy call_tuple_of (by rfl) mtuple (by decide +kernel) (pa_cons (pe_op op_cat (pe_lst (pa_cons (pv 5) (pa_cons (pv 1) (pa_cons (pv 6) pa_nil)))) (pv 7)) pa_nil))))))
      pss_nil)
    (pss_one (ps_ret (pe_tup (pa_cons pe_str (pa_cons (pv 1) (pa_cons (pe_callTy call_tuple_of (by rfl) mtuple (by decide +kernel) (pa_cons (pe_lc (own := [("_law_k", 8)]) (g := gName 8) rfl scPart.nd (pi_range1 (by rfl) mrange (pa_cons (pe_call G.ok hr1 (by rfl) G.m G.kp G.b .nil pass0 (pa_cons (pv 0) (pa_cons pe_int pa_nil))) pa_nil))
        (blkOk_by (own := [("_law_k", 8)]) (N := partN) (sc := defScope sPart) (by decide +kernel)) (fun _ _ _ _ _ => pg_name (i := 8) scPart.nd rfl (Or.inl rfl) (Or.inr rfl)) (fun _ _ _ _ _ => pts_nil)
        (fun _ _ _ _ _ => pe_call GT.ok hr (by rfl) GT.m GT.kp GT.b .nil pass0 (pa_cons (pv 0) (pa_cons (pv 2) (pa_cons (pv 3) pa_nil))))) pa_nil)) pa_nil)))))), ?_⟩
  refine ⟨fun σ' H1 => σ' = [some (.ref b), some (.str wire), some (.ref e), some (.ref v), some (.ref x), none, none, none, none] ∧ Bag H1 b c ∧ Kp b H H1, ?_, ?_⟩
  · -- if boxes != [] and earlier != [] and pull(bag, 2) == 0
    refine ⟨.ref x, rfl, Nat.zero_le _, fun p hp => ?_⟩
    have k1 : Kp b H (upd H p (.lst [])) := (Kp.refl b H).new hp _
    have B1 := B.upd_new hp (.lst [])
    have hb1 := hb.kp B k1
    have he1 := he.kp k1
    refine ⟨_, _, .lst (SqL.of hb1.at_) (dpAll_bx hb1.all), .lst (SqL.of upd_same) .nil, shaped_bx hb.ok, rfl, _, rfl, ?_⟩
    refine ite2 (fun c1 => ?_) (fun _ => ?_)
    case refine_2 => exact iteF ⟨rfl, B1, k1⟩
    have fs0 : 0 < fs.length := by
      cases fs with
      | nil => cases c1
      | cons y r => exact Nat.succ_pos _
    refine ⟨.ref e, rfl, Nat.zero_le _, fun p2 hp2 => ?_⟩
    have k2 := k1.new hp2 (.lst [])
    have B2 := B1.upd_new hp2 (.lst [])
    have hb2 := hb.kp B k2
    have he2 := he.kp k2
    refine ⟨_, _, .lst (SqL.of he2.at_) (dpAll_strs es), .lst (SqL.of upd_same) .nil, shaped_strs he.nm, rfl, _, rfl, ?_⟩
    refine ite2 (fun c2 => ?_) (fun _ => ?_)
    case refine_2 => exact iteF ⟨rfl, B2, k2⟩
    have es0 : 0 < es.length := by
      cases es with
      | nil => cases c2
      | cons y r => exact Nat.succ_pos _
    refine ⟨.ref b, rfl, b, c, 2, rfl, B2, by decide, by decide, fun d H3 d0 d1 B3 k3' => ?_⟩
    have k3 := k2.trans k3'
    have hb3 := hb.kp B k3
    refine ⟨rfl, _, rfl, ?_⟩
    refine ite2 (fun _ => ?_) (fun _ => ?_)
    case refine_2 => exact ⟨rfl, B3, k3⟩
    -- kind, name = any(bag, boxes)
    have bl : bs.length = fs.length := hb.all.1
    have fl := hb.l
    refine ⟨_, rfl, _, rfl, b, c, .ref x, bs, rfl, B3, .inl ⟨x, rfl, hb.ne, SqL.of hb3.at_⟩, by omega, by omega, fun y H4 hy B4 k4' => ?_⟩
    have k4 := k3.trans k4'
    have hb4 := hb.kp B k4
    obtain ⟨i, hi⟩ := List.getElem?_of_mem hy
    obtain ⟨⟨kd, f⟩, hf, t, rfl, ht⟩ := hb4.all.get hi
    obtain ⟨g1, g2⟩ := hb.ok _ (List.mem_of_getElem? hf)
    refine ⟨t, _, rfl, SqT.of ht, rfl, _, _, rfl, _, _, rfl, rfl, ?_⟩
    -- ends
    refine ⟨fun σ' H5 => ∃ (D : Addr) (ds : List Str), σ' = [some (.ref b), some (.str wire), some (.ref e), some (.ref v), some (.ref x), some (.str kd), some (.str f), some (.ref D), none] ∧ Bag H5 b c ∧ Kp b H H5 ∧ D ≠ b ∧ PairL kd ds.length ∧ (∀ z ∈ ds, IsNm z) ∧ H5 D = some (.lst (ds.map V.str)), ?_, ?_⟩
    · refine ⟨_, rfl, rfl, _, rfl, ?_⟩
      refine ite2 (fun cp => ?_) (fun cp => ?_)
      · refine ⟨2, rfl, by decide, by decide, fun D hD => ?_⟩
        have nD := B4.ne_new hD
        have hD0 : H D = none := k4.free B4 hD
        refine lc_range (lo := 0) (n := 2) (fun i H5 => Bag H5 b c ∧ Kp b H H5 ∧ ∃ ds : List Str, ds.length = i ∧ (∀ z ∈ ds, IsNm z) ∧ H5 D = some (.lst (ds.map V.str)))
          ⟨B4.upd_new hD _, k4.wr hD0 _, [], rfl, (fun z hz => nomatch hz), upd_same⟩ (fun i H5 hi ⟨B5, k5, ds, hl, hn, hD5⟩ => ?_) (fun H5 ⟨B5, k5, ds, hl, hn, hD5⟩ => ?_)
        · refine ⟨rfl, _, rfl, _, rfl, any_nm B5 (he.kp k5) es0 fun z H6 nz B6 k6 => ?_⟩
          refine ⟨_, k6 _ _ hD5 nD.1.symm, by rw [List.length_map, hl]; exact small1000 (by omega), B6.wr nD _, (k5.trans k6).wr hD0 _, ds ++ [z], by rw [List.length_append, hl]; rfl, fun y hy => ?_, by rw [upd_same, List.map_append]; rfl⟩
          rcases List.mem_append.mp hy with h | h
          · exact hn y h
          · rw [List.mem_singleton.mp h]
            exact nz
        · exact ⟨D, ds, rfl, B5, k5, nD.1.symm, ⟨by omega, .inl ⟨V.str.inj (of_decide_eq_true cp), hl⟩⟩, hn, hD5⟩
      · refine ⟨1, rfl, by decide, by decide, fun D hD => ?_⟩
        have nD := B4.ne_new hD
        have hD0 : H D = none := k4.free B4 hD
        refine lc_range (lo := 0) (n := 1) (fun i H5 => Bag H5 b c ∧ Kp b H H5 ∧ ∃ ds : List Str, ds.length = i ∧ (∀ z ∈ ds, IsNm z) ∧ H5 D = some (.lst (ds.map V.str)))
          ⟨B4.upd_new hD _, k4.wr hD0 _, [], rfl, (fun z hz => nomatch hz), upd_same⟩ (fun i H5 hi ⟨B5, k5, ds, hl, hn, hD5⟩ => ?_) (fun H5 ⟨B5, k5, ds, hl, hn, hD5⟩ => ?_)
        · refine ⟨rfl, _, rfl, _, rfl, any_nm B5 (he.kp k5) es0 fun z H6 nz B6 k6 => ?_⟩
          refine ⟨_, k6 _ _ hD5 nD.1.symm, by rw [List.length_map, hl]; exact small1000 (by omega), B6.wr nD _, (k5.trans k6).wr hD0 _, ds ++ [z], by rw [List.length_append, hl]; rfl, fun y hy => ?_, by rw [upd_same, List.map_append]; rfl⟩
          rcases List.mem_append.mp hy with h | h
          · exact hn y h
          · rw [List.mem_singleton.mp h]
            exact nz
        · exact ⟨D, ds, rfl, B5, k5, nD.1.symm, ⟨by omega, .inr ⟨fun e => cp (by rw [e]; exact decide_eq_true rfl), hl⟩⟩, hn, hD5⟩
    rintro σ' H5 ⟨D, ds, rfl, B5, k5, nDb, ⟨dl, dpl⟩, dn, hD⟩
    refine ⟨_, rfl, _, rfl, _, rfl, (by show 3 ≤ sizeLine; decide), fun m hm => ?_⟩
    have nDm : D ≠ m := ne_of_none hD hm
    refine ⟨_, rfl, m, D, _, _, rfl, rfl, upd_same, by rw [upd_ne nDm]; exact hD, ?_, fun m2 hm2 => ?_⟩
    · rw [List.length_map]
      show 3 + ds.length ≤ _
      exact Nat.le_trans (show 3 + ds.length ≤ 1000 by omega) (by decide)
    refine ⟨m2, _, rfl, .inl ⟨SqL.of upd_same, fun t2 ht2 => ?_⟩⟩
    refine q (.ref t2) (.flat kd wire (f :: ds)) _ ⟨t2, rfl, upd_same⟩ ⟨(kinds_ok g1).2.1, (kinds_ok g1).2.2.1, (kinds_ok g1).2.2.2, by have := hw.l4; omega, by show ds.length + 1 ≤ 10; omega, fun z hz => ?_⟩ ⟨hw, flat_ok g1 g2 dn dpl⟩ rfl (((B5.upd_new hm _).upd_new hm2 _).upd_new ht2 _) (((k5.new hm _).new hm2 _).new ht2 _)
    rcases List.mem_cons.mp hz with h | h
    · rw [h]
      have : f.length ≤ 4 := g2.l4
      omega
    · have := (dn z h).l4; omega
  rintro σ' H1 ⟨rfl, B1, k1⟩
  -- ("mix", wire, tuple([term(bag, earlier, every) for k in range(pull(bag, 4))]))
  refine ⟨_, rfl, .ref b, rfl, b, c, 4, rfl, B1, by decide, by decide, fun d H2 d0 d1 B2 k2' => ?_⟩
  have k2 := k1.trans k2'
  refine ⟨d, rfl, by omega, by omega, fun D hD => ?_⟩
  have nD := B2.ne_new hD
  have hD0 : H D = none := k2.free B2 hD
  refine lc_range (lo := 0) (n := d.toNat) (fun i H3 => Bag H3 b c ∧ Kp b H H3 ∧ ∃ us ts, All2 (TmAt H3) us ts ∧ ts.length = i ∧ (∀ t ∈ ts, SmT t ∧ IsNm t.a) ∧ H3 D = some (.lst us))
    ⟨B2.upd_new hD _, k2.wr hD0 _, [], [], .nil, rfl, (fun t ht => nomatch ht), upd_same⟩ (fun i H3 hi ⟨B3, k3, us, ts, hA, hl, hs, hD3⟩ => ?_) (fun H3 ⟨B3, k3, us, ts, hA, hl, hs, hD3⟩ => ?_)
  · refine ⟨rfl, _, rfl, _, rfl, _, rfl, b, c, e, v, es, ws, rfl, B3, he.kp k3, hv.kp k3, h0, fun y t H4 ht hst hnt B4 k4 => ?_⟩
    have hul : us.length = i := by rw [hA.1, hl]
    have hD4 := k4 _ _ hD3 nD.1.symm
    have tw : ∀ (z : V) (q : Tm), TmAt H4 z q → TmAt (upd H4 D (.lst (us ++ [y]))) z q := fun z q ⟨a, e1, h1⟩ => ⟨a, e1, by rw [upd_ne (ne_of h1 hD4 (by intro z; cases z))]; exact h1⟩
    refine ⟨us, hD4, by rw [hul]; exact small1000 (by omega), B4.wr nD _, (k3.trans k4).wr hD0 _, us ++ [y], ts ++ [t], (hA.mono fun z q h => tw z q (h.tups (k4.tups B3))).snoc (tw y t ht), by rw [List.length_append, hl]; rfl, fun z hz => ?_, upd_same⟩
    rcases List.mem_append.mp hz with h | h
    · exact hs z h
    · rw [List.mem_singleton.mp h]
      exact ⟨hst, hnt⟩
  · refine ⟨D, _, rfl, .inl ⟨SqL.of hD3, fun t ht => ?_⟩⟩
    refine ⟨(by show 3 ≤ sizeLine; decide), fun u hu => ?_⟩
    have ht1 := upd_same (H := H3) (a := t) (o := .tup us)
    have ntu : t ≠ u := ne_of_none ht1 hu
    have sm := (same_upd ht (.tup us)).trans (same_upd hu (.tup [.str "mix", .str wire, .ref t]))
    exact q (.ref u) (.mix wire ts) _ ⟨u, t, us, rfl, upd_same, by rw [upd_ne ntu]; exact upd_same, hA.mono fun _ _ z => z.tups (Same.tups sm)⟩ ⟨by have := hw.l4; omega, by omega, fun t ht => (hs t ht).1⟩ ⟨hw, by omega, hs⟩ rfl ((B3.upd_new ht _).upd_new hu _) ((k3.new ht _).new hu _)
theorem cut_to {ws : List Str} {k : Int} (h : 0 ≤ k) : cutV (ws.map V.str) none (some k) = (ws.take k.toNat).map V.str := by
  obtain ⟨n, rfl⟩ : ∃ n : Nat, k = (n : Int) := ⟨k.toNat, by omega⟩
  unfold cutV
  rw [HT.sIx_none, HT.sIx_nat, List.drop_zero, Nat.sub_zero, Int.toNat_natCast, List.length_map, List.map_take, List.take_eq_take_iff]
  rw [List.length_map]
  omega
theorem NmL.take {H : Hp} {b a : Addr} {ws : List Str} (h : NmL H b a ws) {m : Addr} (n : Nat) (ne : m ≠ b) (hm : H m = some (.lst ((ws.take n).map V.str))) : NmL H b m (ws.take n) :=
  ⟨ne, hm, fun z hz => h.nm z (List.mem_of_mem_take hz), by rw [List.length_take]; have := h.l; omega⟩
abbrev partsN : List Str := ["_law_bag_here", "_law_wires", "_law_sources", "_law_boxes_here", "_law_found", "_law_k", "_law_wire"]
abbrev partsP : List Str := ["_law_bag_here", "_law_wires", "_law_sources", "_law_boxes_here"]
def spParts : Sp := fun vs H Q _ => ∃ (b c a x : Addr) (k : Int) (ws : List Str) (bs : List V) (fs : List (Str × Str)), vs = [.ref b, .ref a, .int k, .ref x] ∧ Bag H b c ∧ NmL H b a ws ∧ 0 ≤ k ∧ k ≤ 100 ∧ BxL H b x bs fs ∧
  ∀ (l : Addr) (us : List V) (ps : List Pt) (H' : Hp), l ≠ b → H' l = some (.lst us) → All2 (PtAt H') us ps → (∀ p ∈ ps, (SmP p ∧ OkP p) ∧ IsNm (Pw p)) → ps.length = ws.length → Bag H' b c → Kp b H H' → Q (.ref l) H'
theorem scParts : FnScope partsN partsP (defScope sParts) := ⟨rfl, rfl, rfl, by decide +kernel, rfl, by decide +kernel, by decide +kernel⟩
theorem ok_parts {f gt : Addr} {fd td : FuncData} (F : Fun K "_law_parts" "_law_parts" sParts f fd) (GT : Df P w K mg base 4 gt td "_law_part" partP spPart) (mlen : mg "len" = none) (mrange : mg "range" = none) : FnOk P w K mg base CX0 5 f fd partsP spParts := by
  refine F.ok scParts (fun vs H Q E h => ?_) (fun cdv A outer s H vs Q E hr h => ?_)
  · obtain ⟨b, c, a, x, k, ws, bs, fs, rfl, _⟩ := h
    rfl
  obtain ⟨b, c, a, x, k, ws, bs, fs, rfl, B, ha, k0, k1, hb, q⟩ := h
  refine ⟨_, pss_cons (ps_setLc (i := 4) (own := [("_law_wire", 6)]) (g := gName 6) rfl scParts.nd rfl rfl (sw_true rfl rfl rfl (by decide +kernel)) (pi_list (pe_slice sl_list (pv 1) po_none (po_some (pv 2))))
      (blkOk_by (own := [("_law_wire", 6)]) (N := partsN) (sc := defScope sParts) (by decide +kernel)) (fun _ _ _ _ _ => pg_name (i := 6) scParts.nd rfl (Or.inl rfl) (Or.inr rfl)) (fun _ _ _ _ _ => pts_nil)
      (fun _ _ _ _ _ => pe_tup (pa_cons pe_str (pa_cons (pv 6) pa_nil))))
    (pss_cons (ps_for PassesOwn.never rfl (pi_range2 (by rfl) mrange (pa_cons (pv 2) (pa_cons (pe_callB call_len_seq (by rfl) mlen PySem.boot_len (pa_cons (pv 1) pa_nil)) pa_nil))) (pg_name (i := 5) scParts.nd rfl (Or.inl rfl))
      (pss_one (ps_expr (pe_bm PySem.F.plainAttrs_list PySem.F.slot_list_append PySem.F.type_list_append mt_append (pv 4) (pa_cons
        (pe_call GT.ok hr (by rfl) GT.m GT.kp GT.b .nil pass0 (pa_cons (pv 0) (pa_cons (pe_ix ix_list (pv 1) (pv 5) (fun _ _ => rfl)) (pa_cons (pe_slice sl_list (pv 1) po_none (po_some (pv 5))) (pa_cons (pv 1) (pa_cons (pv 3) pa_nil)))))) pa_nil)))))
    (pss_one (ps_ret (pv 4)))), ?_⟩
  have wl := ha.l
  -- the sources
  refine ⟨.ref a, rfl, .int k, rfl, k, rfl, a, _, rfl, SqL.of ha.at_, fun m hm => ?_⟩
  rw [cut_to k0]
  have nm := B.ne_new hm
  have km : Kp b H (upd H m (.lst ((ws.take k.toNat).map V.str))) := (Kp.refl b H).new hm _
  have Bm := B.upd_new hm (.lst ((ws.take k.toNat).map V.str))
  have hm1 : (upd H m (.lst ((ws.take k.toNat).map V.str))) m = some (.lst ((ws.take k.toNat).map V.str)) := upd_same
  generalize (upd H m (.lst ((ws.take k.toNat).map V.str))) = Hm at km Bm hm1
  refine ⟨m, rfl, ⟨_, SqL.of hm1⟩, fun D hD => ?_⟩
  have nD := Bm.ne_new hD
  have hD0 : H D = none := km.free Bm hD
  have smW : ∀ z, IsNm z → SmP (.flat "source" z []) := fun z hz => ⟨by decide +kernel, by decide +kernel, by decide +kernel, by have := hz.l4; omega, Nat.zero_le _, fun e he => nomatch he⟩
  refine lc_list (K := K) (a := m) (xs := (ws.take k.toNat).map V.str) (fun i H2 => Bag H2 b c ∧ Kp b H H2 ∧ H2 m = some (.lst ((ws.take k.toNat).map V.str)) ∧ ∃ us ps, All2 (PtAt H2) us ps ∧ ps.length = i ∧ (∀ p ∈ ps, (SmP p ∧ OkP p) ∧ IsNm (Pw p)) ∧ H2 D = some (.lst us))
    ⟨Bm.upd_new hD _, km.wr hD0 _, by rw [upd_ne (ne_of_none hm1 hD)]; exact hm1, [], [], .nil, rfl, (fun p hp => nomatch hp), upd_same⟩ (fun i H2 _ ⟨_, _, h2, _⟩ => SqL.of h2) (fun i y H2 hy ⟨B2, k2, hm2, us, ps, hA, hl, hs, hD2⟩ => ?_) (fun H2 ⟨B2, k2, hm2, us, ps, hA, hl, hs, hD2⟩ => ?_)
  · have hi : i < (ws.take k.toNat).length := by
      have h := (List.getElem?_eq_some_iff.mp hy).1
      rw [List.length_map] at h
      exact h
    rw [List.getElem?_map, List.getElem?_eq_getElem hi] at hy
    cases Option.some.inj hy
    have hz : IsNm (ws.take k.toNat)[i] := ha.nm _ (List.mem_of_mem_take (List.getElem_mem hi))
    have hul : us.length = i := by rw [hA.1, hl]
    have hi2 : i < 1001 := by
      rw [List.length_take] at hi
      omega
    refine ⟨rfl, _, rfl, (by show 2 ≤ sizeLine; decide), fun t ht => ?_⟩
    have hDt := ne_of_none hD2 ht
    have hmD : m ≠ D := ne_of_none hm1 hD
    have hD3 : (upd H2 t (.tup [.str "source", .str (ws.take k.toNat)[i]])) D = some (.lst us) := by rw [upd_ne hDt]; exact hD2
    refine ⟨us, hD3, by rw [hul]; exact small1000 (by omega), (B2.upd_new ht _).wr nD _, (k2.new ht _).wr hD0 _, ?_, us ++ [.ref t], ps ++ [.flat "source" (ws.take k.toNat)[i] []], ?_, by rw [List.length_append, hl]; rfl, fun p hp => ?_, upd_same⟩
    · rw [upd_ne hmD, upd_ne (ne_of_none hm2 ht)]
      exact hm2
    · refine (hA.mono fun _ _ z => (z.tups (Same.tups (same_upd ht _))).wr hD3).snoc ⟨t, rfl, ?_⟩
      rw [upd_ne (fun e => hDt e.symm)]
      exact upd_same
    · rcases List.mem_append.mp hp with h | h
      · exact hs p h
      · rw [List.mem_singleton.mp h]
        exact ⟨⟨smW _ hz, ⟨hz, .inl ⟨rfl, rfl⟩⟩⟩, hz⟩
  -- the others
  rw [List.length_map, List.length_take] at hl
  have ha2 := ha.kp k2
  refine ⟨.int k, rfl, .ref a, rfl, a, _, rfl, .inl (SqL.of ha2.at_), k, _, rfl, ⟨by omega, by omega, by omega, by rw [List.length_map]; omega⟩, ?_⟩
  rw [List.length_map]
  refine for_range (lo := k) (n := ((ws.length : Int) - k).toNat) (fun i σ H3 => ∃ v5, σ = [some (.ref b), some (.ref a), some (.int k), some (.ref x), some (.ref D), v5, none] ∧ Bag H3 b c ∧ Kp b H H3 ∧ ∃ us ps, All2 (PtAt H3) us ps ∧ ps.length = min k.toNat ws.length + i ∧ (∀ p ∈ ps, (SmP p ∧ OkP p) ∧ IsNm (Pw p)) ∧ H3 D = some (.lst us))
    ⟨none, rfl, B2, k2, us, ps, hA, hl, hs, hD2⟩ ?_ ?_
  · rintro i σ H3 hi ⟨v5, rfl, B3, k3, us, ps, hA, hl, hs, hD3⟩
    have hki : (k + (i : Int)).toNat < ws.length := by omega
    have hat : atI (ws.map V.str) (k + (i : Int)) = some (.str ws[(k + (i : Int)).toNat]) := by
      have e : atI (ws.map V.str) (((k + (i : Int)).toNat : Nat) : Int) = some (.str ws[(k + (i : Int)).toNat]) := atI_nat (by rw [List.getElem?_map, List.getElem?_eq_getElem hki] <;> rfl)
      rw [Int.toNat_of_nonneg (by omega)] at e
      exact e
    have ha3 := ha.kp k3
    have hz : IsNm ws[(k + (i : Int)).toNat] := ha.nm _ (List.getElem_mem hki)
    refine ⟨.ref D, rfl, .inl ⟨rfl, _, SqL.of hD3⟩, _, rfl, _, rfl, _, rfl, a, _, _, _, rfl, rfl, SqL.of ha3.at_, hat, ?_⟩
    refine ⟨.ref a, rfl, .int (k + (i : Int)), rfl, _, rfl, a, _, rfl, SqL.of ha3.at_, fun m4 hm4 => ?_⟩
    rw [cut_to (by omega)]
    have k4 := k3.new hm4 (.lst ((ws.take (k + (i : Int)).toNat).map V.str))
    have B4 := B3.upd_new hm4 (.lst ((ws.take (k + (i : Int)).toNat).map V.str))
    refine ⟨_, rfl, _, rfl, b, c, m4, a, x, _, ws.take (k + (i : Int)).toNat, ws, bs, fs, rfl, B4, hz, (ha.kp k4).take _ (B3.fresh hm4) upd_same, ha.kp k4, by omega, hb.kp B k4, fun y p H5 hyp hsp hop hpw B5 k5 => ?_⟩
    have k35 : Kp b H3 H5 := ((Kp.refl b H3).new hm4 _).trans k5
    have hD5 : H5 D = some (.lst us) := k35 _ _ hD3 nD.1.symm
    have hul : us.length ≤ 1000 := by rw [hA.1, hl]; omega
    refine ⟨D, us, y, rfl, rfl, hD5, small1000 hul, ?_⟩
    refine ⟨_, rfl, B5.wr nD _, (k3.trans k35).wr hD0 _, us ++ [y], ps ++ [p], (hA.mono fun _ _ z => (z.tups (k35.tups B3)).wr hD5).snoc (hyp.wr hD5), by rw [List.length_append, hl]; rfl, fun p' hp' => ?_, upd_same⟩
    rcases List.mem_append.mp hp' with h | h
    · exact hs p' h
    · rw [List.mem_singleton.mp h]
      exact ⟨⟨hsp, hop⟩, by rw [hpw]; exact hz⟩
  · rintro σ H3 ⟨v5, rfl, B3, k3, us, ps, hA, hl, hs, hD3⟩
    exact ⟨.ref D, rfl, q D us ps H3 nD.1.symm hD3 hA hs (by omega) B3 k3⟩
end
end Un
namespace Un
open PySem L2 TL
section
variable {P : Program} {w : World} {K : PySem.W.Frag} {mg : Str → Option Value} {base : Heap}
/-! ### parts -/
abbrev sIsKind : Stmt := top 38
abbrev sIsTerm : Stmt := top 39
abbrev sAreTerms : Stmt := top 40
abbrev sAreEnds : Stmt := top 41
abbrev sIsPart : Stmt := top 42
abbrev sWiresIn : Stmt := top 43
abbrev sLeadsOf : Stmt := top 44
/-- what the top holds for the functions of parts -/
structure PartTxt (K : PySem.W.Frag) (w : World) (mg : Str → Option Value) : Prop where
  isi : mg "isinstance" = none
  str : mg "str" = none
  tuple : mg "tuple" = none
  list : mg "list" = none
  len : mg "len" = none
  all : mg "all" = none
  fac : ∃ t, mg "MOST_FACTOR" = some (.int 99 t)
  del : ∃ t, mg "MOST_DELAY" = some (.int 4 t)
  terms : ∃ t, mg "MOST_TERMS" = some (.int 6 t)
  ends : ∃ (d : Addr) (es : Array DictEntry) (n : Nat), mg "ENDS" = some (.ref d) ∧ KDict K w d es n ∧ (∀ z, z ∈ kinds4 → ∃ t, PySem.W.nsIn K d z = some (some (.int (if z = "pair" then 2 else 1) t))) ∧ ∀ z : Str, z = "source" ∨ z = "mix" ∨ z = "use" → PySem.W.nsIn K d z = some none
def spIsKind : Sp := fun vs H Q _ => ∃ z : Str, vs = [.str z] ∧ z ∈ kinds4 ∧ Q (.bl true) H
theorem scIsKind : FnScope ["value"] ["value"] (defScope sIsKind) := ⟨rfl, rfl, rfl, by decide +kernel, rfl, by decide +kernel, by decide +kernel⟩
theorem ok_isKind {f : Addr} {fd : FuncData} (F : Fun K "is_kind" "is_kind" sIsKind f fd) (T : PartTxt K w mg) : FnOk P w K mg base CX0 1 f fd ["value"] spIsKind := by
  refine F.ok scIsKind (fun vs H Q E h => ?_) (fun cdv A outer s H vs Q E hr h => ?_)
  · obtain ⟨z, rfl, _⟩ := h
    rfl
  obtain ⟨z, rfl, hz, q⟩ := h
  obtain ⟨d, es, n, mends, D, e4, _⟩ := T.ends
  obtain ⟨t, et⟩ := e4 z hz
  refine ⟨_, (pss_one (ps_ret (pe_and (pe_callB call_isi (by rfl) T.isi (by decide +kernel) (pa_cons (pv 0) (pa_cons (pe_bltn (v := .ty "str") (by rfl) T.str (by decide +kernel) rfl) pa_nil))) (pe_one (pe_cmpR (op_in_kd D) (pv 0) (pe_glob (v := .ref d) (by rfl) mends rfl) (by rfl)))))), ?_⟩
  refine ⟨_, rfl, _, _, _, _, true, rfl, .ty _, (.base (.str z)), kit_ty (by decide +kernel), _, rfl, iteT ?_⟩
  exact ⟨_, rfl, z, _, rfl, rfl, et, q⟩
def spIsTerm : Sp := fun vs H Q _ => ∃ (x : V) (t : Tm), vs = [x] ∧ TmAt H x t ∧ SmT t ∧ IsNm t.a ∧ ∀ H', Same H H' → Q (.bl true) H'
theorem scIsTerm : FnScope ["value", "factor", "delay", "wire"] ["value"] (defScope sIsTerm) := ⟨rfl, rfl, rfl, by decide +kernel, rfl, by decide +kernel, by decide +kernel⟩
theorem ok_isTerm {f fn fm : Addr} {fd dn dm : FuncData} (F : Fun K "is_term" "is_term" sIsTerm f fd) (T : PartTxt K w mg) (GN : Df P w K mg base 2 fn dn "is_number" ["value", "least", "most"] (spNumber K)) (GM : Df P w K mg base 1 fm dm "is_name" ["value"] (spName K)) : FnOk P w K mg base CX0 3 f fd ["value"] spIsTerm := by
  refine F.ok scIsTerm (fun vs H Q E h => ?_) (fun cdv A outer s H vs Q E hr h => ?_)
  · obtain ⟨x, t, rfl, _⟩ := h
    rfl
  obtain ⟨x, t, rfl, ⟨a, rfl, ha⟩, st, nm, q⟩ := h
  obtain ⟨tf, mfac⟩ := T.fac
  obtain ⟨td, mdel⟩ := T.del
  refine ⟨_, (pss_cons (ps_if (PW.pt (pw_or (pt_not (pt_val (pe_callB call_isi (by rfl) T.isi (by decide +kernel) (pa_cons (pv 0) (pa_cons (pe_bltn (v := .ty "tuple") (by rfl) T.tuple (by decide +kernel) rfl) pa_nil))))) (pw_or1 (pt_cmpR op_ne (pe_callB call_len_seq (by rfl) T.len PySem.boot_len (pa_cons (pv 0) pa_nil)) pe_int (nomark _)))))
 (pss_one (ps_ret pe_bl))
 pss_nil)
 (pss_cons (ps_asg (pv 0) (pg_tup (by rfl) (pgs_cons (pg_name (i := 1) scIsTerm.nd rfl (by first | exact Or.inl rfl | exact Or.inr rfl)) (pgs_cons (pg_name (i := 2) scIsTerm.nd rfl (by first | exact Or.inl rfl | exact Or.inr rfl)) (pgs_cons (pg_name (i := 3) scIsTerm.nd rfl (by first | exact Or.inl rfl | exact Or.inr rfl)) pgs_nil)))))
 (pss_one (ps_ret (pe_and (pe_call GN.ok (hr.mono (by decide)) (by rfl) GN.m GN.kp GN.b .nil pass0 (pa_cons (pv 1) (pa_cons (pe_un un_neg (pe_glob (v := .int 99) (by rfl) mfac ⟨_, rfl⟩)) (pa_cons (pe_glob (v := .int 99) (by rfl) mfac ⟨_, rfl⟩) pa_nil)))) (pe_and (pe_call GN.ok (hr.mono (by decide)) (by rfl) GN.m GN.kp GN.b .nil pass0 (pa_cons (pv 2) (pa_cons pe_int (pa_cons (pe_glob (v := .int 4) (by rfl) mdel ⟨_, rfl⟩) pa_nil)))) (pe_one (pe_call GM.ok (hr.mono (by decide)) (by rfl) GM.m GM.kp GM.b .nil pass0 (pa_cons (pv 3) pa_nil))))))))), ?_⟩
  refine ⟨_, rfl, _, _, _, _, true, rfl, .ty _, (.base (.tup ha)), kit_ty (by decide +kernel), _, rfl, iteF ?_⟩
  refine ⟨_, rfl, a, _, rfl, .inr (SqT.of ha), rfl, _, rfl, iteF ?_⟩
  refine ⟨_, rfl, a, _, rfl, SqT.of ha, rfl, _, _, rfl, _, _, rfl, _, _, rfl, rfl, ?_⟩
  refine ⟨_, rfl, 99, rfl, _, _, _, rfl, .inl ⟨_, rfl, ?_⟩⟩
  rw [decide_eq_true st.n0, decide_eq_true st.n1]
  refine ⟨_, rfl, iteT ?_⟩
  refine ⟨_, rfl, _, _, _, rfl, .inl ⟨_, rfl, ?_⟩⟩
  rw [decide_eq_true st.d0, decide_eq_true st.d1]
  refine ⟨_, rfl, iteT ?_⟩
  refine ⟨_, rfl, _, rfl, .inl ⟨_, rfl, by have := nm.l4; omega, fun H1 s1 => ?_⟩⟩
  rw [nm.b]
  exact q H1 s1
def spAreTerms : Sp := fun vs H Q _ => ∃ (b : Addr) (us : List V) (ts : List Tm), vs = [.ref b] ∧ H b = some (.tup us) ∧ All2 (TmAt H) us ts ∧ ts.length ≤ 6 ∧ (∀ t ∈ ts, SmT t ∧ IsNm t.a) ∧ ∀ H', Same H H' → Q (.bl true) H'
theorem scAreTerms : FnScope ["value", "item"] ["value"] (defScope sAreTerms) := ⟨rfl, rfl, rfl, by decide +kernel, rfl, by decide +kernel, by decide +kernel⟩
theorem ok_areTerms {f ft : Addr} {fd dt : FuncData} (F : Fun K "are_terms" "are_terms" sAreTerms f fd) (T : PartTxt K w mg) (GT : Df P w K mg base 3 ft dt "is_term" ["value"] spIsTerm) : FnOk P w K mg base CX0 4 f fd ["value"] spAreTerms := by
  refine F.ok scAreTerms (fun vs H Q E h => ?_) (fun cdv A outer s H vs Q E hr h => ?_)
  · obtain ⟨b, us, ts, rfl, _⟩ := h
    rfl
  obtain ⟨b, us, ts, rfl, hb, hA, hl, hts, q⟩ := h
  obtain ⟨tm, mterms⟩ := T.terms
  refine ⟨_, (pss_one (ps_ret (pe_and (pe_callB call_isi (by rfl) T.isi (by decide +kernel) (pa_cons (pv 0) (pa_cons (pe_bltn (v := .ty "tuple") (by rfl) T.tuple (by decide +kernel) rfl) pa_nil))) (pe_and (pe_cmpR op_le (pe_callB call_len_seq (by rfl) T.len PySem.boot_len (pa_cons (pv 0) pa_nil)) (pe_glob (v := .int 6) (by rfl) mterms ⟨_, rfl⟩) (nomark _)) (pe_one (pe_callB (cr_all rfl) (by rfl) T.all (by decide +kernel) (pa_cons (pe_lc (own := [("item", 1)]) (g := (gName 1)) rfl scAreTerms.nd (pi_tup (pv 0)) (blkOk_by (own := [("item", 1)]) (N := ["value", "item"]) (sc := defScope sAreTerms) (by decide +kernel)) (fun _ _ _ _ _ => (pg_name (i := 1) scAreTerms.nd rfl (Or.inl rfl) (Or.inr rfl))) (fun _ _ _ _ _ => pts_nil) (fun _ _ _ _ _ => (pe_call GT.ok (hr.mono (by decide)) (by rfl) GT.m GT.kp GT.b .nil pass0 (pa_cons (pv 1) pa_nil)))) pa_nil))))))), ?_⟩
  refine ⟨_, rfl, _, _, _, _, true, rfl, .ty _, (.base (.tup hb)), kit_ty (by decide +kernel), _, rfl, iteT ?_⟩
  refine ⟨_, rfl, b, _, rfl, .inr (SqT.of hb), _, _, rfl, rfl, _, rfl, ?_⟩
  rw [show decide (((us.length : Nat) : Int) ≤ 6) = true from decide_eq_true (by rw [hA.1]; omega)]
  refine iteT ?_
  refine ⟨_, rfl, b, rfl, ⟨_, SqT.of hb⟩, fun D hD => ?_⟩
  have s1 := same_upd hD (.lst [])
  refine lc_tup (xs := us) (fun i H2 => Same H H2 ∧ H2 D = some (.lst (List.replicate i (.bl true)))) ⟨s1, upd_same⟩ (fun i H2 _ h => SqT.of (h.1 _ _ hb)) (fun i x H2 hx ⟨s2, hD2⟩ => ?_) (fun H2 ⟨s2, hD2⟩ => ?_)
  · have hi : i < us.length := (List.getElem?_eq_some_iff.mp hx).1
    obtain ⟨t, ht⟩ : ∃ t, ts[i]? = some t := ⟨ts[i]'(by rw [← hA.1]; exact hi), List.getElem?_eq_getElem _⟩
    have hm := List.mem_of_getElem? ht
    refine ⟨rfl, _, rfl, x, t, rfl, (hA.2 i x t hx ht).tups (Same.tups s2), (hts t hm).1, (hts t hm).2, fun H3 s3 => ?_⟩
    refine ⟨_, s3 _ _ hD2, ?_, fun c o hc => ?_, ?_⟩
    · rw [List.length_replicate]
      exact small1000 (by have := hA.1; omega)
    · rw [upd_ne (ne_of_none hc hD)]
      exact s3 _ _ (s2 _ _ hc)
    · rw [upd_same, ← List.replicate_succ']
  · refine ⟨D, List.replicate us.length true, rfl, SqL.of (by rw [hD2, List.map_replicate]), ?_⟩
    rw [all_true]
    exact q H2 s2
end
end Un
namespace Un
open PySem L2 TL
section
variable {P : Program} {w : World} {K : PySem.W.Frag} {mg : Str → Option Value} {base : Heap}
def notUse : Pt → Prop
  | .use _ _ _ => False
  | _ => True
def spIsPart : Sp := fun vs H Q _ => ∃ (x : V) (p : Pt), vs = [x] ∧ PtAt H x p ∧ OkP p ∧ SmP p ∧ notUse p ∧ ∀ H', Same H H' → Q (.bl true) H'
theorem scIsPart : FnScope ["value", "kind", "_", "items", "item"] ["value"] (defScope sIsPart) := ⟨rfl, rfl, rfl, by decide +kernel, rfl, by decide +kernel, by decide +kernel⟩
theorem nm_len {z : Str} (h : IsNm z) : z.length ≤ 1000 := by
  have := h.l4
  omega
theorem ok_isPart {f fm fa fk : Addr} {fd dm da dk : FuncData} (F : Fun K "is_part" "is_part" sIsPart f fd) (T : PartTxt K w mg) (GM : Df P w K mg base 1 fm dm "is_name" ["value"] (spName K)) (GA : Df P w K mg base 4 fa da "are_terms" ["value"] spAreTerms) (GK : Df P w K mg base 1 fk dk "is_kind" ["value"] spIsKind) :
    FnOk P w K mg base CX0 5 f fd ["value"] spIsPart := by
  refine F.ok scIsPart (fun vs H Q E h => ?_) (fun cdv A outer s H vs Q E hr h => ?_)
  · obtain ⟨x, p, rfl, _⟩ := h
    rfl
  obtain ⟨x, p, rfl, hp, ok, sm, nu, q⟩ := h
  obtain ⟨d, es, n, mends, D, e4, _⟩ := T.ends
  refine ⟨_, (pss_cons (ps_if (PW.pt (pw_or (pt_not (pt_val (pe_callB call_isi (by rfl) T.isi (by decide +kernel) (pa_cons (pv 0) (pa_cons (pe_bltn (v := .ty "tuple") (by rfl) T.tuple (by decide +kernel) rfl) pa_nil))))) (pw_or (pt_cmpR op_lt (pe_callB call_len_seq (by rfl) T.len PySem.boot_len (pa_cons (pv 0) pa_nil)) pe_int (nomark _)) (pw_or1 (pt_not (pt_val (pe_call GM.ok (hr.mono (by decide)) (by rfl) GM.m GM.kp GM.b .nil pass0 (pa_cons (pe_ix ix_tup (pv 0) pe_int (fun _ _ => rfl)) pa_nil))))))))
 (pss_one (ps_ret pe_bl))
 pss_nil)
 (pss_cons (ps_asg (pv 0) (pg_star (n := 2) rfl (pgs_cons (pg_name (i := 1) scIsPart.nd rfl (by first | exact Or.inl rfl | exact Or.inr rfl)) (pgs_cons (pg_name (i := 2) scIsPart.nd rfl (by first | exact Or.inl rfl | exact Or.inr rfl)) (pgs_star (pg_name (i := 3) scIsPart.nd rfl (by first | exact Or.inl rfl | exact Or.inr rfl)))))))
 (pss_cons (ps_if (pt_cmpR op_eq (pv 1) pe_str (nomark _))
 (pss_one (ps_ret (pe_notT (pv 3))))
 pss_nil)
 (pss_cons (ps_if (pt_cmpR op_eq (pv 1) pe_str (nomark _))
 (pss_one (ps_ret (pe_and (pe_cmpR op_eq (pe_callB call_len_seq (by rfl) T.len PySem.boot_len (pa_cons (pv 3) pa_nil)) pe_int (nomark _)) (pe_one (pe_call GA.ok (hr.mono (by decide)) (by rfl) GA.m GA.kp GA.b .nil pass0 (pa_cons (pe_ix ix_list (pv 3) pe_int (fun _ _ => rfl)) pa_nil))))))
 pss_nil)
 (pss_cons (ps_if (pt_cmpR op_eq (pv 1) pe_str (nomark _))
 pss_never
 pss_nil)
 (pss_one (ps_ret (pe_and (pe_call GK.ok (hr.mono (by decide)) (by rfl) GK.m GK.kp GK.b .nil pass0 (pa_cons (pv 1) pa_nil)) (pe_and (pe_cmpR op_eq (pe_callB call_len_seq (by rfl) T.len PySem.boot_len (pa_cons (pv 3) pa_nil)) (pe_op op_add pe_int (pe_ix ix_kdict (pe_glob (v := .ref d) (by rfl) mends rfl) (pv 1) (fun _ _ => rfl))) (nomark _)) (pe_one (pe_callB (cr_all rfl) (by rfl) T.all (by decide +kernel) (pa_cons (pe_lc (own := [("item", 4)]) (g := (gName 4)) rfl scIsPart.nd (pi_list (pv 3)) (blkOk_by (own := [("item", 4)]) (N := ["value", "kind", "_", "items", "item"]) (sc := defScope sIsPart) (by decide +kernel)) (fun _ _ _ _ _ => (pg_name (i := 4) scIsPart.nd rfl (Or.inl rfl) (Or.inr rfl))) (fun _ _ _ _ _ => pts_nil) (fun _ _ _ _ _ => (pe_call GM.ok (hr.mono (by decide)) (by rfl) GM.m GM.kp GM.b .nil pass0 (pa_cons (pv 4) pa_nil)))) pa_nil)))))))))))), ?_⟩
  cases p with
  | use w p es => exact False.elim nu
  | mix wr ts =>
    obtain ⟨a, b, us, rfl, ha, hb, hA⟩ := hp
    obtain ⟨hw, hl, ht⟩ := ok
    refine ⟨_, rfl, _, _, _, _, true, rfl, .ty _, (.base (.tup ha)), kit_ty (by decide +kernel), _, rfl, iteF ?_⟩
    refine ⟨_, rfl, a, _, rfl, .inr (SqT.of ha), _, _, rfl, rfl, _, rfl, iteF ?_⟩
    refine ⟨_, rfl, a, _, 1, _, rfl, rfl, SqT.of ha, rfl, _, rfl, .inl ⟨_, rfl, nm_len hw, fun H1 s1 => ?_⟩⟩
    rw [hw.b]
    refine ⟨_, rfl, iteF ?_⟩
    have ha1 := s1 _ _ ha
    refine ⟨_, rfl, a, _, rfl, SqT.of ha1, (by show 2 ≤ 3; decide), fun p hp0 => ?_⟩
    have s2 := s1.trans (same_upd hp0 (.lst [.ref b]))
    refine ⟨_, _, rfl, _, _, rfl, _, _, rfl, rfl, ?_⟩
    refine ⟨_, rfl, rfl, _, rfl, iteF ?_⟩
    refine ⟨_, rfl, rfl, _, rfl, iteT ?_⟩
    refine ⟨_, rfl, p, [.ref b], rfl, .inl (SqL.of upd_same), rfl, _, rfl, iteT ?_⟩
    refine ⟨_, rfl, p, [.ref b], 0, .ref b, rfl, rfl, SqL.of upd_same, rfl, b, us, ts, rfl, s2 _ _ hb, hA.mono fun _ _ z => z.tups (Same.tups s2), hl, ht, fun H3 s3 => ?_⟩
    exact q H3 (s2.trans s3)
  | flat k wr ns =>
    obtain ⟨a, rfl, ha⟩ := hp
    obtain ⟨hw, hk⟩ := ok
    obtain ⟨n1, n2, _⟩ := sm
    refine ⟨_, rfl, _, _, _, _, true, rfl, .ty _, (.base (.tup ha)), kit_ty (by decide +kernel), _, rfl, iteF ?_⟩
    refine ⟨_, rfl, a, _, rfl, .inr (SqT.of ha), _, _, rfl, rfl, _, rfl, ?_⟩
    rw [show decide (((V.str k :: V.str wr :: ns.map V.str).length : Int) < 2) = false from decide_eq_false (by rw [List.length_cons, List.length_cons]; omega)]
    refine iteF ?_
    refine ⟨_, rfl, a, _, 1, _, rfl, rfl, SqT.of ha, atI_nat (j := 1) rfl, _, rfl, .inl ⟨_, rfl, nm_len hw, fun H1 s1 => ?_⟩⟩
    rw [hw.b]
    refine ⟨_, rfl, iteF ?_⟩
    have ha1 := s1 _ _ ha
    refine ⟨_, rfl, a, _, rfl, SqT.of ha1, (by show 2 ≤ _ + 2; omega), fun p hp0 => ?_⟩
    have s2 := s1.trans (same_upd hp0 (.lst (ns.map V.str)))
    have hl : upd H1 p (.lst (ns.map V.str)) p = some (.lst (ns.map V.str)) := upd_same
    refine ⟨_, _, rfl, _, _, rfl, _, _, rfl, rfl, ?_⟩
    refine ⟨_, rfl, rfl, _, rfl, ?_⟩
    rcases hk with ⟨rfl, rfl⟩ | hk
    · refine iteT ?_
      exact ⟨_, rfl, _, .inl ⟨[], SqL.of hl, rfl⟩, q _ s2⟩
    have kns : ¬ k = "source" := by
      rcases hk with ⟨rfl | rfl | rfl, _⟩ | ⟨rfl, _⟩ <;> decide
    rw [decide_eq_false (fun e => kns (V.str.inj e))]
    refine iteF ?_
    refine ⟨_, rfl, rfl, _, rfl, ?_⟩
    rw [decide_eq_false (fun e => n1 (V.str.inj e))]
    refine iteF ?_
    refine ⟨_, rfl, rfl, _, rfl, ?_⟩
    rw [decide_eq_false (fun e => n2 (V.str.inj e))]
    refine iteF ?_
    have k4 : k ∈ kinds4 := by
      rcases hk with ⟨rfl | rfl | rfl, _⟩ | ⟨rfl, _⟩ <;> decide
    obtain ⟨te, ete⟩ := e4 k k4
    refine ⟨_, rfl, k, rfl, k4, _, rfl, iteT ?_⟩
    have hlen : ns.length = (if k = "pair" then 3 else 2) ∧ ∀ z ∈ ns, IsNm z := by
      rcases hk with ⟨hk, f, e, rfl, h1, h2⟩ | ⟨rfl, f, e, g, rfl, h1, h2, h3⟩
      · refine ⟨?_, fun z hz => ?_⟩
        · rw [if_neg (by rcases hk with rfl | rfl | rfl <;> decide)]
          rfl
        · simp only [List.mem_cons, List.not_mem_nil, or_false] at hz
          rcases hz with rfl | rfl
          · exact h1
          · exact h2
      · refine ⟨by rw [if_pos rfl]; rfl, fun z hz => ?_⟩
        simp only [List.mem_cons, List.not_mem_nil, or_false] at hz
        rcases hz with rfl | rfl | rfl
        · exact h1
        · exact h2
        · exact h3
    refine ⟨_, rfl, p, _, rfl, .inl (SqL.of hl), _, rfl, d, k, .int (if k = "pair" then 2 else 1), rfl, rfl, ⟨es, n, _, D.at_, D.lit, ete, ⟨_, rfl⟩⟩, 1, _, rfl, rfl, rfl, _, rfl, ?_⟩
    rw [show decide (V.int ((ns.map V.str).length : Nat) = V.int (1 + if k = "pair" then 2 else 1)) = true from decide_eq_true (by
      rw [List.length_map, hlen.1]
      by_cases e : k = "pair"
      · rw [if_pos e, if_pos e]
        rfl
      · rw [if_neg e, if_neg e]
        rfl)]
    refine iteT ?_
    refine ⟨_, rfl, p, rfl, ⟨_, SqL.of hl⟩, fun L hL => ?_⟩
    have s3 := s2.trans (same_upd hL (.lst []))
    have hl3 : ns.length ≤ 3 := by
      rw [hlen.1]
      split <;> omega
    refine lc_list (xs := ns.map V.str) (fun i H2 => Same (upd H1 p (.lst (ns.map V.str))) H2 ∧ H2 L = some (.lst (List.replicate i (.bl true)))) ⟨same_upd hL (.lst []), upd_same⟩ (fun i H2 _ h => SqL.of (h.1 _ _ hl)) (fun i x H2 hx ⟨s4, hL2⟩ => ?_) (fun H2 ⟨s4, hL2⟩ => ?_)
    · rw [List.getElem?_map] at hx
      cases e : ns[i]? with
      | none => rw [e] at hx; cases hx
      | some z =>
        rw [e] at hx
        cases hx
        have hi : i < ns.length := (List.getElem?_eq_some_iff.mp e).1
        have hz := hlen.2 z (List.mem_of_getElem? e)
        refine ⟨rfl, _, rfl, _, rfl, .inl ⟨_, rfl, nm_len hz, fun H5 s5 => ?_⟩⟩
        rw [hz.b]
        refine ⟨_, s5 _ _ hL2, ?_, fun c o hc => ?_, ?_⟩
        · rw [List.length_replicate]
          exact small1000 (by omega)
        · rw [upd_ne (ne_of_none hc hL)]
          exact s5 _ _ (s4 _ _ hc)
        · rw [upd_same, ← List.replicate_succ']
    · rw [List.length_map] at hL2
      refine ⟨L, List.replicate ns.length true, rfl, SqL.of (by rw [hL2, List.map_replicate]), ?_⟩
      rw [all_true]
      exact q H2 (s2.trans s4)
end
end Un
namespace Un
open PySem L2 TL
section
variable {P : Program} {w : World} {K : PySem.W.Frag} {mg : Str → Option Value} {base : Heap}
def endsP : Pt → List Str
  | .flat _ _ es => es.drop 1
  | .mix _ ts => ts.map (·.a)
  | .use _ _ es => es
def leadsP : Pt → List Str
  | .flat _ _ es => es.drop 1
  | .mix _ ts => (ts.filter fun t => decide (t.d = 0)).map (·.a)
  | .use _ _ es => es
theorem endsP_len {p : Pt} (h : SmP p) : (endsP p).length ≤ 10 := by
  cases p with
  | flat k w es => have := h.2.2.2.2.1; show (es.drop 1).length ≤ 10; rw [List.length_drop]; omega
  | mix w ts => show (ts.map _).length ≤ 10; rw [List.length_map]; exact h.2.1
  | use w p es => exact h.2.2.1
theorem leads_sub {p : Pt} : ∀ e ∈ leadsP p, e ∈ endsP p := by
  intro e he
  cases p with
  | flat k w es => exact he
  | mix w ts =>
    obtain ⟨t, ht, rfl⟩ := List.mem_map.mp he
    exact List.mem_map.mpr ⟨t, (List.mem_filter.mp ht).1, rfl⟩
  | use w p es => exact he
theorem leads_len {p : Pt} (h : SmP p) : (leadsP p).length ≤ 10 := by
  cases p with
  | flat k w es => exact endsP_len h
  | mix w ts => show (List.map _ (ts.filter _)).length ≤ 10; rw [List.length_map]; exact Nat.le_trans (List.length_filter_le _ _) h.2.1
  | use w p es => exact h.2.2.1
def spStrs (f : Pt → List Str) : Sp := fun vs H Q _ => ∃ (x : V) (p : Pt), vs = [x] ∧ PtAt H x p ∧ OkP p ∧ SmP p ∧ notUse p ∧ ∀ (l : Addr) (H' : Hp), Same H H' → H l = none → H' l = some (.lst ((f p).map V.str)) → Q (.ref l) H'
theorem scWiresIn : FnScope ["part", "kind", "_", "items", "wire"] ["part"] (defScope sWiresIn) := ⟨rfl, rfl, rfl, by decide +kernel, rfl, by decide +kernel, by decide +kernel⟩
theorem ok_wiresIn {f : Addr} {fd : FuncData} (F : Fun K "wires_in" "wires_in" sWiresIn f fd) : FnOk P w K mg base CX0 1 f fd ["part"] (spStrs endsP) := by
  refine F.ok scWiresIn (fun vs H Q E h => ?_) (fun cdv A outer s H vs Q E hr h => ?_)
  · obtain ⟨x, p, rfl, _⟩ := h
    rfl
  obtain ⟨x, p, rfl, hp, ok, sm, nu, q⟩ := h
  refine ⟨_, (pss_cons (ps_asg (pv 0) (pg_star (n := 2) rfl (pgs_cons (pg_name (i := 1) scWiresIn.nd rfl (by first | exact Or.inl rfl | exact Or.inr rfl)) (pgs_cons (pg_name (i := 2) scWiresIn.nd rfl (by first | exact Or.inl rfl | exact Or.inr rfl)) (pgs_star (pg_name (i := 3) scWiresIn.nd rfl (by first | exact Or.inl rfl | exact Or.inr rfl)))))))
 (pss_cons (ps_if (pt_cmpR op_eq (pv 1) pe_str (nomark _))
 (pss_one (ps_ret (pe_lc (own := [("_", 2), ("wire", 4)]) (g := (gTup K 3 (gCons (gName 2) (gCons (gName 2) (gCons (gName 4) gNil))))) rfl scWiresIn.nd (pi_tup (pe_ix ix_list (pv 3) pe_int (fun _ _ => rfl))) (blkOk_by (own := [("_", 2), ("wire", 4)]) (N := ["part", "kind", "_", "items", "wire"]) (sc := defScope sWiresIn) (by decide +kernel)) (fun _ _ _ _ _ => (pg_tup (n := 3) rfl (pgs_cons (pg_name (i := 2) scWiresIn.nd rfl (Or.inl rfl) (Or.inr rfl)) (pgs_cons (pg_name (i := 2) scWiresIn.nd rfl (Or.inl rfl) (Or.inr rfl)) (pgs_cons (pg_name (i := 4) scWiresIn.nd rfl (Or.inl rfl) (Or.inr rfl)) pgs_nil))))) (fun _ _ _ _ _ => pts_nil) (fun _ _ _ _ _ => (pv 4)))))
 pss_nil)
 (pss_cons (ps_if (pt_cmpR op_eq (pv 1) pe_str (nomark _))
 pss_never
 pss_nil)
 (pss_one (ps_ret (pe_slice sl_list (pv 3) (po_some pe_int) po_none)))))), ?_⟩
  cases p with
  | use w p es => exact False.elim nu
  | mix wr ts =>
    obtain ⟨a, b, us, rfl, ha, hb, hA⟩ := hp
    obtain ⟨hw, hl, ht⟩ := ok
    refine ⟨_, rfl, a, _, rfl, SqT.of ha, (by show 2 ≤ 3; decide), fun p hp0 => ?_⟩
    have s2 := same_upd hp0 (.lst [.ref b])
    refine ⟨_, _, rfl, _, _, rfl, _, _, rfl, rfl, ?_⟩
    refine ⟨_, rfl, rfl, _, rfl, iteT ?_⟩
    refine ⟨_, rfl, p, [.ref b], 0, .ref b, rfl, rfl, SqL.of upd_same, rfl, ?_⟩
    refine ⟨b, rfl, ⟨_, SqT.of (s2 _ _ hb)⟩, fun D hD => ?_⟩
    have hD0 := s2.free hD
    refine lc_tup (xs := us) (fun i H2 => Same (upd H p (.lst [.ref b])) H2 ∧ H2 D = some (.lst ((ts.take i).map fun t => V.str t.a))) ⟨same_upd hD _, upd_same⟩ (fun i H2 _ h => SqT.of (h.1 _ _ (s2 _ _ hb))) (fun i x H2 hx ⟨s4, hD2⟩ => ?_) (fun H2 ⟨s4, hD2⟩ => ?_)
    · have hi : i < us.length := (List.getElem?_eq_some_iff.mp hx).1
      obtain ⟨t, ht⟩ : ∃ t, ts[i]? = some t := ⟨ts[i]'(by rw [← hA.1]; exact hi), List.getElem?_eq_getElem _⟩
      obtain ⟨c, rfl, hc⟩ := (hA.2 i x t hx ht).tups (Same.tups (s2.trans s4))
      refine ⟨c, _, rfl, SqT.of hc, rfl, _, _, rfl, _, _, rfl, _, _, rfl, rfl, rfl, _, rfl, _, hD2, ?_, fun e o he => ?_, ?_⟩
      · rw [List.length_map, List.length_take]
        exact small1000 (by omega)
      · rw [upd_ne (ne_of_none he hD)]
        exact s4 _ _ he
      · rw [upd_same, List.take_add_one, ht, List.map_append]
        rfl
    · refine q D H2 (s2.trans s4) hD0 ?_
      rw [hD2, hA.1, List.take_length]
      show _ = some (HO.lst ((ts.map (·.a)).map V.str))
      rw [List.map_map]
      rfl
  | flat k wr ns =>
    obtain ⟨a, rfl, ha⟩ := hp
    obtain ⟨hw, hk⟩ := ok
    obtain ⟨n1, n2, _⟩ := sm
    refine ⟨_, rfl, a, _, rfl, SqT.of ha, (by show 2 ≤ _ + 2; omega), fun p hp0 => ?_⟩
    have s2 := same_upd hp0 (.lst (ns.map V.str))
    have hl : upd H p (.lst (ns.map V.str)) p = some (.lst (ns.map V.str)) := upd_same
    refine ⟨_, _, rfl, _, _, rfl, _, _, rfl, rfl, ?_⟩
    refine ⟨_, rfl, rfl, _, rfl, ?_⟩
    rw [decide_eq_false (fun e => n1 (V.str.inj e))]
    refine iteF ?_
    refine ⟨_, rfl, rfl, _, rfl, ?_⟩
    rw [decide_eq_false (fun e => n2 (V.str.inj e))]
    refine iteF ?_
    refine ⟨_, rfl, 1, rfl, p, _, rfl, SqL.of hl, fun l hl0 => ?_⟩
    have e : cutV (ns.map V.str) (some 1) none = (ns.drop 1).map V.str := by
      rcases hk with ⟨rfl, rfl⟩ | ⟨_, f, e, rfl, _⟩ | ⟨rfl, f, e, g, rfl, _⟩ <;> rfl
    rw [e]
    exact q l _ (s2.trans (same_upd hl0 _)) (s2.free hl0) upd_same
theorem scLeadsOf : FnScope ["part", "_", "delay", "wire"] ["part"] (defScope sLeadsOf) := ⟨rfl, rfl, rfl, by decide +kernel, rfl, by decide +kernel, by decide +kernel⟩
theorem ok_leadsOf {f fw : Addr} {fd dw : FuncData} (F : Fun K "leads_of" "leads_of" sLeadsOf f fd) (GW : Df P w K mg base 1 fw dw "wires_in" ["part"] (spStrs endsP)) : FnOk P w K mg base CX0 2 f fd ["part"] (spStrs leadsP) := by
  refine F.ok scLeadsOf (fun vs H Q E h => ?_) (fun cdv A outer s H vs Q E hr h => ?_)
  · obtain ⟨x, p, rfl, _⟩ := h
    rfl
  obtain ⟨x, p, rfl, hp, ok, sm, nu, q⟩ := h
  refine ⟨_, (pss_cons (ps_if (pt_cmpR op_eq (pe_ix ix_tup (pv 0) pe_int (fun _ _ => rfl)) pe_str (nomark _))
 (pss_one (ps_ret (pe_lc (own := [("_", 1), ("delay", 2), ("wire", 3)]) (g := (gTup K 3 (gCons (gName 1) (gCons (gName 2) (gCons (gName 3) gNil))))) rfl scLeadsOf.nd (pi_tup (pe_ix ix_tup (pv 0) pe_int (fun _ _ => rfl))) (blkOk_by (own := [("_", 1), ("delay", 2), ("wire", 3)]) (N := ["part", "_", "delay", "wire"]) (sc := defScope sLeadsOf) (by decide +kernel)) (fun _ _ _ _ _ => (pg_tup (n := 3) rfl (pgs_cons (pg_name (i := 1) scLeadsOf.nd rfl (Or.inl rfl) (Or.inr rfl)) (pgs_cons (pg_name (i := 2) scLeadsOf.nd rfl (Or.inl rfl) (Or.inr rfl)) (pgs_cons (pg_name (i := 3) scLeadsOf.nd rfl (Or.inl rfl) (Or.inr rfl)) pgs_nil))))) (fun _ _ _ _ _ => (pts_one (pt_cmpR op_eq (pv 2) pe_int (nomark _)))) (fun _ _ _ _ _ => (pv 3)))))
 pss_nil)
 (pss_one (ps_ret (pe_call GW.ok (hr.mono (by decide)) (by rfl) GW.m GW.kp GW.b .nil pass0 (pa_cons (pv 0) pa_nil))))), ?_⟩
  cases p with
  | use w p es => exact False.elim nu
  | mix wr ts =>
    have hp' := hp
    obtain ⟨a, b, us, rfl, ha, hb, hA⟩ := hp
    obtain ⟨hw, hl, ht⟩ := ok
    refine ⟨_, rfl, a, _, 0, _, rfl, rfl, SqT.of ha, rfl, rfl, _, rfl, iteT ?_⟩
    refine ⟨_, rfl, a, _, 2, _, rfl, rfl, SqT.of ha, rfl, ?_⟩
    refine ⟨b, rfl, ⟨_, SqT.of hb⟩, fun D hD => ?_⟩
    refine lc_tup (xs := us) (fun i H2 => Same H H2 ∧ H2 D = some (.lst (((ts.take i).filter fun t => decide (t.d = 0)).map fun t => V.str t.a))) ⟨same_upd hD _, upd_same⟩ (fun i H2 _ h => SqT.of (h.1 _ _ hb)) (fun i x H2 hx ⟨s4, hD2⟩ => ?_) (fun H2 ⟨s4, hD2⟩ => ?_)
    · have hi : i < us.length := (List.getElem?_eq_some_iff.mp hx).1
      obtain ⟨t, ht⟩ : ∃ t, ts[i]? = some t := ⟨ts[i]'(by rw [← hA.1]; exact hi), List.getElem?_eq_getElem _⟩
      obtain ⟨c, rfl, hc⟩ := (hA.2 i x t hx ht).tups (Same.tups s4)
      refine ⟨c, _, rfl, SqT.of hc, rfl, _, _, rfl, _, _, rfl, _, _, rfl, rfl, rfl, _, rfl, rfl, _, rfl, ?_⟩
      by_cases hd : t.d = 0
      · rw [show decide (V.int t.d = V.int 0) = true by simp [hd]]
        refine iteT ⟨_, rfl, _, hD2, ?_, fun e o he => ?_, ?_⟩
        · rw [List.length_map]
          exact small1000 (Nat.le_trans (List.length_filter_le _ _) (by rw [List.length_take]; omega))
        · rw [upd_ne (ne_of_none he hD)]
          exact s4 _ _ he
        · rw [upd_same, List.take_add_one, ht, List.filter_append, List.map_append]
          show _ = some (HO.lst (_ ++ List.map _ (List.filter _ [t])))
          rw [List.filter_cons_of_pos (by simpa using hd)]
          rfl
      · rw [show decide (V.int t.d = V.int 0) = false by simp [hd]]
        refine iteF ⟨s4, ?_⟩
        rw [hD2, List.take_add_one, ht, List.filter_append, List.map_append]
        show _ = some (HO.lst (_ ++ List.map _ (List.filter _ [t])))
        rw [List.filter_cons_of_neg (by simpa using hd)]
        show _ = some (HO.lst (_ ++ []))
        rw [List.append_nil]
    · refine q D H2 s4 hD ?_
      rw [hD2, hA.1, List.take_length]
      show _ = some (HO.lst (((ts.filter fun t => decide (t.d = 0)).map (·.a)).map V.str))
      rw [List.map_map]
      rfl
  | flat k wr ns =>
    have hp' := hp
    obtain ⟨a, rfl, ha⟩ := hp
    refine ⟨_, rfl, a, _, 0, _, rfl, rfl, SqT.of ha, atI_nat (j := 0) rfl, rfl, _, rfl, ?_⟩
    rw [decide_eq_false (fun e => sm.1 (V.str.inj e))]
    refine iteF ?_
    exact ⟨_, rfl, .ref a, .flat k wr ns, rfl, hp', ok, sm, nu, q⟩
end
end Un
namespace Un
open PySem L2 TL
section
variable {P : Program} {w : World} {K : PySem.W.Frag} {mg : Str → Option Value} {base : Heap}
/-! ### rings -/
abbrev sReached : Stmt := top 47
abbrev sFirstRing : Stmt := top 48
def lkp (G : List (Str × List Str)) (z : Str) : Option (List Str) := (G.find? fun g => decide (g.1 = z)).map (·.2)
theorem lkp_cons (g : Str × List Str) (G : List (Str × List Str)) (z : Str) : lkp (g :: G) z = if g.1 = z then some g.2 else lkp G z := by
  unfold lkp
  by_cases h : g.1 = z
  · rw [List.find?_cons_of_pos (by simpa using h), if_pos h]
    rfl
  · rw [List.find?_cons_of_neg (by simpa using h), if_neg h]
theorem lkp_mem {G : List (Str × List Str)} {z : Str} {ls : List Str} (h : lkp G z = some ls) : (z, ls) ∈ G := by
  unfold lkp at h
  cases e : G.find? fun g => decide (g.1 = z) with
  | none => rw [e] at h; cases h
  | some g =>
    rw [e] at h
    have h1 := List.mem_of_find?_eq_some e
    have h2 := List.find?_some e
    have h3 : g.1 = z := by simpa using h2
    cases h
    rw [← h3]
    exact h1
theorem lkp_some {G : List (Str × List Str)} {z : Str} (h : z ∈ G.map (·.1)) : ∃ ls, lkp G z = some ls := by
  induction G with
  | nil => cases h
  | cons g G ih =>
    rw [lkp_cons]
    by_cases e : g.1 = z
    · exact ⟨_, if_pos e⟩
    · rw [if_neg e]
      refine ih ?_
      rcases List.mem_cons.mp h with h | h
      · exact absurd h.symm e
      · exact h
theorem lkp_key {G : List (Str × List Str)} {z : Str} {ls : List Str} (h : lkp G z = some ls) : z ∈ G.map (·.1) := List.mem_map.mpr ⟨_, lkp_mem h, rfl⟩
def EntryAt (H : Hp) (kv : Key × V) (g : Str × List Str) : Prop := kv.1 = Sum.inr g.1 ∧ ∃ l, kv.2 = .ref l ∧ H l = some (.lst (g.2.map V.str))
structure GraphAt (H : Hp) (d : Addr) (kvs : List (Key × V)) (G : List (Str × List Str)) : Prop where
  at_ : Rd H d (.dK kvs)
  all : All2 (EntryAt H) kvs G
theorem Rd.same {H H' : Hp} {d : Addr} {u : HO} (h : Rd H d u) (s : Same H H') : Rd H' d u := by
  rcases h with h | ⟨o, h⟩
  · exact .inl (s _ _ h)
  · exact .inr ⟨o, s _ _ h⟩
theorem EntryAt.same {H H' : Hp} {kv : Key × V} {g : Str × List Str} (h : EntryAt H kv g) (s : Same H H') : EntryAt H' kv g := ⟨h.1, by
  obtain ⟨_, l, e, hl⟩ := h
  exact ⟨l, e, s _ _ hl⟩⟩
theorem GraphAt.same {H H' : Hp} {d : Addr} {kvs : List (Key × V)} {G : List (Str × List Str)} (h : GraphAt H d kvs G) (s : Same H H') : GraphAt H' d kvs G := ⟨Rd.same h.at_ s, h.all.mono fun _ _ z => z.same s⟩
theorem entries_get {H : Hp} : ∀ {kvs : List (Key × V)} {G : List (Str × List Str)} {z : Str} {ls : List Str}, All2 (EntryAt H) kvs G → lkp G z = some ls → ∃ l, valV kvs (Sum.inr z) = some (.ref l) ∧ H l = some (.lst (ls.map V.str))
  | [], [], z, ls, _, h => by cases h
  | [], g :: G, z, ls, a, _ => by cases a.1
  | kv :: kvs, [], z, ls, a, _ => by cases a.1
  | kv :: kvs, g :: G, z, ls, a, h => by
    have h0 := a.2 0 kv g rfl rfl
    rw [lkp_cons] at h
    by_cases e : g.1 = z
    · rw [if_pos e] at h
      cases h
      obtain ⟨e1, l, e2, hl⟩ := h0
      refine ⟨l, ?_, hl⟩
      rw [valV_pos (by rw [e1, e]), e2]
    · rw [if_neg e] at h
      obtain ⟨l, h1, h2⟩ := entries_get a.tail.2 h
      refine ⟨l, ?_, h2⟩
      rw [valV_neg (by rw [h0.1]; exact fun z => e (Sum.inr.inj z))]
      exact h1
structure GOk (G : List (Str × List Str)) : Prop where
  nd : (G.map (·.1)).Nodup
  cl : ∀ z ls, lkp G z = some ls → ls.length ≤ 10 ∧ ∀ y ∈ ls, y ∈ G.map (·.1)
  l : G.length ≤ 30
inductive Rch (G : List (Str × List Str)) (p : Str) : Str → Prop
  | one {ls : List Str} {y : Str} : lkp G p = some ls → y ∈ ls → Rch G p y
  | step {x y : Str} {ls : List Str} : Rch G p x → lkp G x = some ls → y ∈ ls → Rch G p y
theorem Rch.key {G : List (Str × List Str)} {p y : Str} (ok : GOk G) (h : Rch G p y) : y ∈ G.map (·.1) := by
  cases h with
  | one h1 h2 => exact (ok.cl _ _ h1).2 _ h2
  | step _ h1 h2 => exact (ok.cl _ _ h1).2 _ h2
def marks (rs : List Str) : List (Key × V) := rs.map fun z => (Sum.inr z, V.bl true)
theorem marks_get (rs : List Str) (y : Str) : valV (marks rs) (Sum.inr y) = if y ∈ rs then some (V.bl true) else none := by
  induction rs with
  | nil => rfl
  | cons x rs ih =>
    show valV ((Sum.inr x, V.bl true) :: marks rs) _ = _
    by_cases e : x = y
    · rw [valV_pos (by rw [e]), if_pos (by rw [e]; exact List.mem_cons_self)]
    · rw [valV_neg (fun z => e (Sum.inr.inj z)), ih]
      by_cases m : y ∈ rs
      · rw [if_pos m, if_pos (List.mem_cons_of_mem _ m)]
      · rw [if_neg m, if_neg (fun z => (List.mem_cons.mp z).elim (fun q => e q.symm) m)]
theorem marks_put {rs : List Str} {y : Str} (h : y ∉ rs) : putK (marks rs) (Sum.inr y) (V.bl true) = marks (rs ++ [y]) := by
  rw [putK_new _ (by rw [marks_get, if_neg h])]
  unfold marks
  rw [List.map_append]
  rfl
theorem sub_len {xs ys : List Str} (h : xs.Nodup) (s : ∀ x ∈ xs, x ∈ ys) : xs.length ≤ ys.length := by
  induction xs generalizing ys with
  | nil => exact Nat.zero_le _
  | cons x xs ih =>
    have hx := s x List.mem_cons_self
    have h1 := List.nodup_cons.mp h
    have := ih (ys := ys.erase x) h1.2 fun z hz => (List.mem_erase_of_ne fun e => h1.1 (by rw [← e]; exact hz)).mpr (s z (List.mem_cons_of_mem _ hz))
    rw [List.length_erase_of_mem hx] at this
    have hp : 0 < ys.length := List.length_pos_of_mem hx
    rw [List.length_cons]
    omega
def spReached : Sp := fun vs H Q _ => ∃ (p : Str) (d : Addr) (kvs : List (Key × V)) (G : List (Str × List Str)), vs = [.str p, .ref d] ∧ GraphAt H d kvs G ∧ GOk G ∧ p ∈ G.map (·.1) ∧
  ∀ (e : Addr) (rs : List Str) (H' : Hp), Same H H' → H e = none → H' e = some (.dK (marks rs)) → (∀ x, x ∈ rs ↔ Rch G p x) → Q (.ref e) H'
theorem scReached : FnScope ["place", "leads", "reached", "waiting", "at"] ["place", "leads"] (defScope sReached) := ⟨rfl, rfl, rfl, by decide +kernel, rfl, by decide +kernel, by decide +kernel⟩
theorem ok_reached {f : Addr} {fd : FuncData} (F : Fun K "reached_from" "reached_from" sReached f fd) (mlist : mg "list" = none) : FnOk P w K mg base CX0 1 f fd ["place", "leads"] spReached := by
  refine F.ok scReached (fun vs H Q E h => ?_) (fun cdv A outer s H vs Q E hr h => ?_)
  · obtain ⟨p, d, kvs, G, rfl, _⟩ := h
    rfl
  obtain ⟨p, d, kvs, G, rfl, ga, ok, hp, q⟩ := h
  obtain ⟨ls0, h0⟩ := lkp_some hp
  refine ⟨_, (pss_cons (ps_set (i := 2) scReached.nd rfl (by first | exact Or.inl rfl | exact Or.inr rfl) pe_dnewK)
 (pss_cons (ps_set (i := 3) scReached.nd rfl (by first | exact Or.inl rfl | exact Or.inr rfl) (pe_callTy call_list_of (by rfl) mlist (by decide +kernel) (pa_cons (pe_dget (hu_of hr) (pv 1) (pv 0) (fun _ _ => rfl)) pa_nil)))
 (pss_cons (ps_while PassesOwn.never (pt_truth (pv 3) (by intro _; rfl))
 (pss_cons (ps_set (i := 4) scReached.nd rfl (by first | exact Or.inl rfl | exact Or.inr rfl) (pe_bm0 PySem.F.plainAttrs_list PySem.F.slot_list_pop PySem.F.type_list_pop mt_pop (pv 3)))
 (pss_one (ps_if (pt_cmp (pc_dnotin (hu_of hr) (pv 4) (pv 2)))
 (pss_cons (ps_dput (hu_of hr) (pv 2) (pv 4) pe_bl rfl)
 (pss_one (ps_expr (pe_bm PySem.F.plainAttrs_list PySem.F.slot_list_extend PySem.F.type_list_extend mt_extend (pv 3) (pa_cons (pe_dget (hu_of hr) (pv 1) (pv 4) (fun _ _ => rfl)) pa_nil)))))
 pss_nil))))
 (pss_one (ps_ret (pv 2)))))), ?_⟩
  intro e he
  have s1 := same_upd he (.dK [])
  obtain ⟨l0, hv0, hl0⟩ := entries_get (ga.same s1).all h0
  refine ⟨_, rfl, _, rfl, d, _, rfl, (.inl ⟨kvs, Sum.inr p, (ga.same s1).at_, rfl, hv0.symm⟩), l0, _, rfl, .inl (SqL.of hl0), fun wq hwq => ?_⟩
  have hwe : e ≠ wq := ne_of_none upd_same hwq
  have hwqH := s1.free hwq
  have gl := ok.l
  refine ⟨fun m σ H2 => ∃ (atv : Option V) (rs ws : List Str), σ = [some (.str p), some (.ref d), some (.ref e), some (.ref wq), atv] ∧ Same H H2 ∧ H2 e = some (.dK (marks rs)) ∧ H2 wq = some (.lst (ws.map V.str)) ∧
      (∀ x ∈ rs, Rch G p x) ∧ (∀ y ∈ ws, Rch G p y) ∧ (∀ y ∈ ls0, y ∈ rs ∨ y ∈ ws) ∧ (∀ x ∈ rs, ∀ ls, lkp G x = some ls → ∀ y ∈ ls, y ∈ rs ∨ y ∈ ws) ∧ rs.Nodup ∧ ws.length ≤ 10 + 10 * rs.length ∧ m = (40 - rs.length) * 11 + ws.length,
    ⟨_, none, [], ls0, rfl, s1.trans (same_upd hwq _), by rw [upd_ne hwe]; exact upd_same, upd_same, fun x hx => (nomatch hx), fun y hy => .one h0 hy, fun y hy => .inr hy, fun x hx => (nomatch hx), List.nodup_nil, (by have := (ok.cl _ _ h0).1; show ls0.length ≤ 10 + 10 * 0; omega), rfl⟩, ?_⟩
  rintro m σ H2 ⟨atv, rs, ws, rfl, s2, he2, hw2, i1, i2, i3, i4, nd, wl, rfl⟩
  have rl : rs.length ≤ G.length := by
    have := sub_len nd fun x hx => (i1 x hx).key ok
    rw [List.length_map] at this
    exact this
  refine ⟨_, rfl, _, .inl ⟨_, SqL.of hw2, rfl⟩, ?_⟩
  rcases List.eq_nil_or_concat ws with rfl | ⟨ws', y, rfl⟩
  · refine iteF ?_
    refine ⟨_, rfl, q e rs H2 s2 he he2 fun x => ⟨i1 x, fun h => ?_⟩⟩
    induction h with
    | one h1 h2 =>
      rw [h0] at h1
      cases h1
      rcases i3 _ h2 with h | h
      · exact h
      · cases h
    | step _ h1 h2 ih =>
      rcases i4 _ ih _ h1 _ h2 with h | h
      · exact h
      · cases h
  · have hyc : Rch G p y := i2 y (by simp)
    obtain ⟨ls, hls⟩ := lkp_some (hyc.key ok)
    have lsl := (ok.cl _ _ hls).1
    rw [show (!((ws'.concat y).map V.str).isEmpty) = true by simp]
    refine iteT ⟨fun σ' H' => ∃ m', m' < (40 - rs.length) * 11 + (ws'.concat y).length ∧ ∃ (atv : Option V) (rs ws : List Str), σ' = [some (.str p), some (.ref d), some (.ref e), some (.ref wq), atv] ∧ Same H H' ∧ H' e = some (.dK (marks rs)) ∧ H' wq = some (.lst (ws.map V.str)) ∧
      (∀ x ∈ rs, Rch G p x) ∧ (∀ y ∈ ws, Rch G p y) ∧ (∀ y ∈ ls0, y ∈ rs ∨ y ∈ ws) ∧ (∀ x ∈ rs, ∀ ls, lkp G x = some ls → ∀ y ∈ ls, y ∈ rs ∨ y ∈ ws) ∧ rs.Nodup ∧ ws.length ≤ 10 + 10 * rs.length ∧ m' = (40 - rs.length) * 11 + ws.length, fun σ' H' h => h, ?_⟩
    have hcat : ws'.concat y = ws' ++ [y] := List.concat_eq_append
    rw [hcat] at hw2 i2 i3 i4 wl ⊢
    have hlast : ((ws' ++ [y]).map V.str)[((ws' ++ [y]).map V.str).length - 1]? = some (.str y) := by
      rw [List.map_append, List.length_append]
      simp
    have hdrop : ((ws' ++ [y]).map V.str).dropLast = ws'.map V.str := by
      rw [List.map_append]
      simp
    refine ⟨_, rfl, .inl ⟨rfl, _, SqL.of hw2⟩, wq, _, _, rfl, rfl, hw2, hlast, ?_⟩
    rw [hdrop]
    have he3 : upd H2 wq (.lst (ws'.map V.str)) e = some (.dK (marks rs)) := by rw [upd_ne hwe]; exact he2
    have s3 : Same H (upd H2 wq (.lst (ws'.map V.str))) := fun b o hb => by
      rw [upd_ne (ne_of_none hb hwqH)]
      exact s2 _ _ hb
    refine ⟨_, rfl, _, rfl, e, _, rfl, DGet.k (k := Sum.inr y) he3, _, rfl, ?_⟩
    rw [marks_get]
    by_cases my : y ∈ rs
    · rw [if_pos my]
      refine iteF ?_
      have keep : ∀ z, z ∈ rs ∨ z ∈ ws' ++ [y] → z ∈ rs ∨ z ∈ ws' := fun z h => by
        rcases h with h | h
        · exact .inl h
        · rcases List.mem_append.mp h with h | h
          · exact .inr h
          · rw [List.mem_singleton.mp h]
            exact .inl my
      refine ⟨_, ?_, _, rs, ws', rfl, s3, he3, upd_same, i1, fun z hz => i2 z (List.mem_append_left _ hz), fun z hz => keep z (i3 z hz), fun x hx l hl z hz => keep z (i4 x hx l hl z hz), nd, ?_, rfl⟩
      · rw [List.length_append]
        show _ < _ + (_ + 1)
        omega
      · rw [List.length_append] at wl
        omega
    · rw [if_neg my]
      refine iteT ?_
      have lt : (marks rs).length < sizeLine := by
        unfold marks
        rw [List.length_map]
        exact small1000 (by omega)
      refine ⟨_, rfl, _, rfl, e, _, rfl, DPut.k (k := Sum.inr y) he3 lt, ?_⟩
      rw [marks_put my]
      have s4 : Same H (upd (upd H2 wq (.lst (ws'.map V.str))) e (.dK (marks (rs ++ [y])))) := fun b o hb => by
        rw [upd_ne (ne_of_none hb he)]
        exact s3 _ _ hb
      generalize hH4 : upd (upd H2 wq (.lst (ws'.map V.str))) e (.dK (marks (rs ++ [y]))) = H4 at s4 ⊢
      have he4 : H4 e = some (.dK (marks (rs ++ [y]))) := by rw [← hH4]; exact upd_same
      have hw4 : H4 wq = some (.lst (ws'.map V.str)) := by rw [← hH4, upd_ne hwe.symm]; exact upd_same
      obtain ⟨l, hv, hl⟩ := entries_get (ga.same s4).all hls
      rw [List.length_append] at wl
      have wl' : ws'.length + 1 ≤ 10 + 10 * rs.length := wl
      refine ⟨_, rfl, .inl ⟨rfl, _, SqL.of hw4⟩, _, rfl, _, rfl, d, _, rfl, (.inl ⟨kvs, Sum.inr y, (ga.same s4).at_, rfl, hv.symm⟩), wq, l, _, _, rfl, rfl, hw4, hl, ?_, ?_⟩
      · rw [List.length_map, List.length_map]
        exact Nat.le_trans (show ws'.length + ls.length ≤ 1000 by omega) (by decide)
      have hwl : wq ≠ e := hwe.symm
      refine ⟨_, ?_, _, rs ++ [y], ws' ++ ls, rfl, fun b o hb => ?_, ?_, ?_, fun x hx => ?_, fun z hz => ?_, fun z hz => ?_, fun x hx l hl z hz => ?_, ?_, ?_, rfl⟩
      · rw [List.length_append, List.length_append, List.length_append]
        show (40 - (rs.length + 1)) * 11 + (ws'.length + ls.length) < (40 - rs.length) * 11 + (ws'.length + 1)
        omega
      · rw [upd_ne (ne_of_none hb hwqH)]
        exact s4 _ _ hb
      · rw [upd_ne hwe]
        exact he4
      · rw [upd_same, List.map_append]
      · rcases List.mem_append.mp hx with h | h
        · exact i1 x h
        · rw [List.mem_singleton.mp h]
          exact hyc
      · rcases List.mem_append.mp hz with h | h
        · exact i2 z (List.mem_append_left _ h)
        · exact .step hyc hls h
      · rcases i3 z hz with h | h
        · exact .inl (List.mem_append_left _ h)
        · rcases List.mem_append.mp h with h | h
          · exact .inr (List.mem_append_left _ h)
          · exact .inl (List.mem_append_right _ h)
      · rcases List.mem_append.mp hx with h | h
        · rcases i4 x h l hl z hz with h | h
          · exact .inl (List.mem_append_left _ h)
          · rcases List.mem_append.mp h with h | h
            · exact .inr (List.mem_append_left _ h)
            · exact .inl (List.mem_append_right _ h)
        · rw [List.mem_singleton.mp h, hls] at hl
          cases hl
          exact .inr (List.mem_append_right _ hz)
      · refine List.nodup_append.mpr ⟨nd, by simp, fun a ha b hb => ?_⟩
        rw [List.mem_singleton.mp hb]
        exact fun e => my (e ▸ ha)
      · rw [List.length_append, List.length_append]
        show ws'.length + ls.length ≤ 10 + 10 * (rs.length + 1)
        omega
end
end Un
namespace Un
open PySem L2 TL
section
variable {P : Program} {w : World} {K : PySem.W.Frag} {mg : Str → Option Value} {base : Heap}
def Fst (G : List (Str × List Str)) (v : V) : Prop := (v = .non ∧ ∀ z ∈ G.map (·.1), ¬ Rch G z z) ∨ ∃ (i : Nat) (z : Str), (G.map (·.1))[i]? = some z ∧ Rch G z z ∧ (∀ (j : Nat) (y : Str), j < i → (G.map (·.1))[j]? = some y → ¬ Rch G y y) ∧ v = .str z
def spFirst : Sp := fun vs H Q _ => ∃ (d : Addr) (kvs : List (Key × V)) (G : List (Str × List Str)), vs = [.ref d] ∧ H d = some (.dK kvs) ∧ All2 (EntryAt H) kvs G ∧ GOk G ∧ ∀ (v : V) (H' : Hp), Same H H' → Fst G v → Q v H'
theorem scFirstRing : FnScope ["leads", "place"] ["leads"] (defScope sFirstRing) := ⟨rfl, rfl, rfl, by decide +kernel, rfl, by decide +kernel, by decide +kernel⟩
theorem ok_firstRing {f fr : Addr} {fd dr : FuncData} (F : Fun K "first_on_ring" "first_on_ring" sFirstRing f fd) (GR : Df P w K mg base 1 fr dr "reached_from" ["place", "leads"] spReached) : FnOk P w K mg base CX0 2 f fd ["leads"] spFirst := by
  refine F.ok scFirstRing (fun vs H Q E h => ?_) (fun cdv A outer s H vs Q E hr h => ?_)
  · obtain ⟨d, kvs, G, rfl, _⟩ := h
    rfl
  obtain ⟨d, kvs, G, rfl, hd, hA, ok, q⟩ := h
  refine ⟨_, (pss_cons (ps_lock (ps_for PassesOwn.never rfl (pi_keys (pv 0)) (pg_name (i := 1) scFirstRing.nd rfl (by first | exact Or.inl rfl | exact Or.inr rfl))
 (pss_one (ps_if (pt_cmp (pc_din (hu_of hr) (pv 1) (pe_call GR.ok (hr.mono (by decide)) (by rfl) GR.m GR.kp GR.b .nil pass0 (pa_cons (pv 1) (pa_cons (pv 0) pa_nil)))))
 (pss_one (ps_ret (pv 1)))
 pss_nil))))
 (pss_one (ps_ret pe_non))), ?_⟩
  refine ⟨d, .dK kvs, hd, trivial, fun od => ?_⟩
  have gall : ∀ H2, Same (upd H d (.frz od (.dK kvs))) H2 → GraphAt H2 d kvs G := fun H2 s2 => ⟨.inr ⟨od, s2 _ _ upd_same⟩, hA.mono fun kv g z => by
    obtain ⟨e1, l, e2, hl⟩ := z
    refine ⟨e1, l, e2, s2 _ _ ?_⟩
    rw [upd_ne (ne_of hl hd (by intro z; cases z))]
    exact hl⟩
  have back : ∀ H2, Same (upd H d (.frz od (.dK kvs))) H2 → Same H (upd H2 d (.dK kvs)) := fun H2 s2 b o hb => by
    by_cases e : b = d
    · rw [e, upd_same, ← hb, e, hd]
    · rw [upd_ne e]
      exact s2 _ _ (by rw [upd_ne e]; exact hb)
  refine ⟨_, rfl, d, od, rfl, .inl ⟨_, upd_same, ?_⟩⟩
  refine for_it walk_keys (fun i σ H2 => (∃ pv, σ = [some (.ref d), pv]) ∧ Same (upd H d (.frz od (.dK kvs))) H2 ∧ ∀ (j : Nat) (y : Str), j < i → (G.map (·.1))[j]? = some y → ¬ Rch G y y) ⟨⟨_, rfl⟩, Same.refl _, fun j y hj => absurd hj (Nat.not_lt_zero _)⟩ (fun i σ H2 _ h => h.2.1 _ _ upd_same) ?_ ?_
  · rintro i y σ H2 H3 hi ⟨⟨pv, rfl⟩, s2, none⟩ ⟨rfl, k, v, hkv, rfl⟩
    obtain ⟨g, hg⟩ : ∃ g, G[i]? = some g := ⟨G[i]'(by rw [← hA.1]; exact hi), List.getElem?_eq_getElem _⟩
    obtain ⟨ek, _⟩ := hA.2 i _ _ hkv hg
    have ek : k = Sum.inr g.1 := ek
    subst ek
    have hz : (G.map (·.1))[i]? = some g.1 := by rw [List.getElem?_map, hg]; rfl
    refine ⟨_, rfl, _, rfl, _, rfl, g.1, d, kvs, G, rfl, gall _ s2, ok, List.mem_of_getElem? hz, fun e rs H4 s4 he4 he4' hrs => ?_⟩
    refine ⟨e, _, rfl, DGet.k (k := Sum.inr g.1) he4', _, rfl, ?_⟩
    rw [marks_get]
    by_cases m : g.1 ∈ rs
    · rw [if_pos m]
      refine iteT ?_
      exact ⟨_, rfl, s4 _ _ (s2 _ _ upd_same), q _ _ (back _ (s2.trans s4)) (.inr ⟨i, g.1, hz, (hrs _).mp m, none, rfl⟩)⟩
    · rw [if_neg m]
      refine iteF ⟨⟨_, rfl⟩, s2.trans s4, fun j y hj hy => ?_⟩
      by_cases e : j = i
      · rw [e, hz] at hy
        cases hy
        exact fun r => m ((hrs _).mpr r)
      · exact none j y (by omega) hy
  · rintro σ H2 ⟨⟨pv, rfl⟩, s2, none⟩
    refine ⟨s2 _ _ upd_same, q _ _ (back _ s2) (.inl ⟨rfl, fun z hz => ?_⟩)⟩
    obtain ⟨j, hj⟩ := List.getElem?_of_mem hz
    have hl : j < (G.map (·.1)).length := (List.getElem?_eq_some_iff.mp hj).1
    rw [List.length_map] at hl
    exact none j z (by rw [hA.1]; exact hl) hj
/-- leads that go down: no ring -/
theorem no_ring {G : List (Str × List Str)} (rk : Str → Nat) (h : ∀ z ls, lkp G z = some ls → ∀ y ∈ ls, rk y < rk z) : ∀ z, ¬ Rch G z z := by
  have go : ∀ p y, Rch G p y → rk y < rk p := by
    intro p y r
    induction r with
    | one h1 h2 => exact h _ _ h1 _ h2
    | step _ h1 h2 ih => exact Nat.lt_trans (h _ _ h1 _ h2) ih
  exact fun z r => Nat.lt_irrefl _ (go z z r)
end
end Un
namespace Un
open PySem L2 TL
section
variable {P : Program} {w : World} {K : PySem.W.Frag} {mg : Str → Option Value} {base : Heap}
/-! ### the checks of nets -/
abbrev sCkOuts : Stmt := top 52
abbrev sCkWires : Stmt := top 53
abbrev sCkKnown : Stmt := top 54
abbrev sCkUses : Stmt := top 55
abbrev sPlainOf : Stmt := top 57
abbrev sCkKinds : Stmt := top 58
abbrev sBoxesIn : Stmt := top 59
structure NetTxt (K : PySem.W.Frag) (w : World) (mg : Str → Option Value) : Prop where
  len : mg "len" = none
  enum : mg "enumerate" = none
  outs : ∃ t, mg "MOST_OUTS" = some (.int 4 t)
  ends : ∃ (d : Addr) (es : Array DictEntry) (n : Nat), mg "ENDS" = some (.ref d) ∧ KDict K w d es n ∧ (∀ z, z ∈ kinds4 → ∃ t, PySem.W.nsIn K d z = some (some (.int (if z = "pair" then 2 else 1) t))) ∧ ∀ z : Str, z = "source" ∨ z = "mix" ∨ z = "use" → PySem.W.nsIn K d z = some none
def kindP : Pt → Str
  | .flat k _ _ => k
  | .mix _ _ => "mix"
  | .use _ _ _ => "use"
theorem PtAt.two {H : Hp} {x : V} {p : Pt} (h : PtAt H x p) : ∃ a r, x = .ref a ∧ H a = some (.tup (.str (kindP p) :: .str (Pw p) :: r)) := by
  cases p with
  | flat k w es => obtain ⟨a, e, h⟩ := h; exact ⟨a, _, e, h⟩
  | mix w ts => obtain ⟨a, b, vs, e, h, _⟩ := h; exact ⟨a, _, e, h⟩
  | use w p es => obtain ⟨a, b, e, h, _⟩ := h; exact ⟨a, _, e, h⟩
theorem not_use {p : Pt} (sm : SmP p) (h : notUse p) : ¬ kindP p = "use" := by
  cases p with
  | flat k w es => exact sm.2.1
  | mix w ts => show ¬ ("mix" : Str) = "use"; decide
  | use w p es => exact False.elim h
structure PlP (p : Pt) : Prop where
  ok : OkP p
  sm : SmP p
  nu : notUse p
structure PsAt (H : Hp) (o : Addr) (us : List V) (ps : List Pt) : Prop where
  at_ : H o = some (.lst us)
  all : All2 (PtAt H) us ps
  ok : ∀ p ∈ ps, PlP p
  l : ps.length ≤ 24
theorem PsAt.same {H H' : Hp} {o : Addr} {us : List V} {ps : List Pt} (h : PsAt H o us ps) (s : Same H H') : PsAt H' o us ps := ⟨s _ _ h.at_, h.all.mono fun _ _ z => z.tups (Same.tups s), h.ok, h.l⟩
theorem PsAt.nth {H : Hp} {o : Addr} {us : List V} {ps : List Pt} {i : Nat} {x : V} (h : PsAt H o us ps) (hx : us[i]? = some x) : ∃ p, ps[i]? = some p ∧ PtAt H x p ∧ PlP p := by
  have hi : i < us.length := (List.getElem?_eq_some_iff.mp hx).1
  obtain ⟨p, hp⟩ : ∃ p, ps[i]? = some p := ⟨ps[i]'(by rw [← h.all.1]; exact hi), List.getElem?_eq_getElem _⟩
  exact ⟨p, hp, h.all.2 i x p hx hp, h.ok p (List.mem_of_getElem? hp)⟩
/-- the wires that parts make -/
abbrev wiresP (ps : List Pt) : List Str := ps.map Pw
structure OsOk (os : List Str) : Prop where
  nm : ∀ z ∈ os, IsNm z
  l0 : 1 ≤ os.length
  l1 : os.length ≤ 4
def spCkOuts : Sp := fun vs H Q _ => ∃ (o : Addr) (os : List Str), vs = [.ref o] ∧ H o = some (.lst (os.map V.str)) ∧ OsOk os ∧ ∀ H', Same H H' → Q .non H'
theorem scCkOuts : FnScope ["outs", "at", "wire"] ["outs"] (defScope sCkOuts) := ⟨rfl, rfl, rfl, by decide +kernel, rfl, by decide +kernel, by decide +kernel⟩
theorem ok_ckOuts {f fm : Addr} {fd dm : FuncData} (F : Fun K "check_outs" "check_outs" sCkOuts f fd) (T : NetTxt K w mg) (GM : Df P w K mg base 1 fm dm "is_name" ["value"] (spName K)) : FnOk P w K mg base CX0 2 f fd ["outs"] spCkOuts := by
  refine F.ok scCkOuts (fun vs H Q E h => ?_) (fun cdv A outer s H vs Q E hr h => ?_)
  · obtain ⟨o, os, rfl, _⟩ := h
    rfl
  obtain ⟨o, os, rfl, ho, ⟨nm, l0, l1⟩, q⟩ := h
  obtain ⟨to, mouts⟩ := T.outs
  refine ⟨_, (pss_cons (ps_for PassesOwn.never rfl (pi_enum (by rfl) T.enum (pa_cons (pv 0) pa_nil)) (pg_tup (by rfl) (pgs_cons (pg_name (i := 1) scCkOuts.nd rfl (by first | exact Or.inl rfl | exact Or.inr rfl)) (pgs_cons (pg_name (i := 2) scCkOuts.nd rfl (by first | exact Or.inl rfl | exact Or.inr rfl)) pgs_nil)))
 (pss_one (ps_if (pt_not (pt_val (pe_call GM.ok (hr.mono (by decide)) (by rfl) GM.m GM.kp GM.b .nil pass0 (pa_cons (pv 2) pa_nil))))
 pss_never
 pss_nil)))
 (pss_one (ps_if (pt_not (pt_chain op_le op_le pe_int (pe_callB call_len_seq (by rfl) T.len PySem.boot_len (pa_cons (pv 0) pa_nil)) (pe_glob (v := .int 4) (by rfl) mouts ⟨_, rfl⟩)))
 pss_never
 pss_nil))), ?_⟩
  refine ⟨_, rfl, o, _, rfl, SqL.of ho, ?_⟩
  refine for_it walk_enum (fun i σ H2 => (∃ v1 v2, σ = [some (.ref o), v1, v2]) ∧ Same H H2) ⟨⟨_, _, rfl⟩, Same.refl H⟩ (fun i σ H2 _ h => SqL.of (h.2 _ _ ho)) ?_ ?_
  · rintro i v σ H2 H3 hi ⟨⟨v1, v2, rfl⟩, s2⟩ ⟨t, x, y, rfl, ht, rfl, hx, hy⟩
    cases hx
    have hy : (os.map V.str)[i]? = some y := hy
    rw [List.getElem?_map] at hy
    cases e : os[i]? with
    | none => rw [e] at hy; cases hy
    | some z =>
      rw [e] at hy
      cases hy
      have hz := nm z (List.mem_of_getElem? e)
      have s3 := s2.trans (same_upd ht (.tup [.int i, .str z]))
      refine ⟨t, _, rfl, SqT.of upd_same, rfl, _, _, rfl, _, _, rfl, rfl, ?_⟩
      refine ⟨_, rfl, _, rfl, .inl ⟨_, rfl, nm_len hz, fun H4 s4 => ?_⟩⟩
      rw [hz.b]
      exact ⟨_, rfl, iteF ⟨⟨_, _, rfl⟩, s3.trans s4⟩⟩
  · rintro σ H2 ⟨⟨v1, v2, rfl⟩, s2⟩
    refine ⟨_, rfl, o, _, rfl, .inl (SqL.of (s2 _ _ ho)), 1, _, rfl, rfl, _, rfl, ?_⟩
    rw [show decide ((1 : Int) ≤ (((os.map V.str).length : Nat) : Int)) = true from decide_eq_true (by rw [List.length_map]; omega)]
    refine iteT ⟨_, _, rfl, rfl, _, rfl, ?_⟩
    rw [show decide ((((os.map V.str).length : Nat) : Int) ≤ 4) = true from decide_eq_true (by rw [List.length_map]; omega)]
    exact iteF (q H2 s2)
def spCkKnown : Sp := fun vs H Q _ => ∃ (l d : Addr) (ws rs : List Str), vs = [.ref l, .ref d] ∧ H l = some (.lst (ws.map V.str)) ∧ H d = some (.dK (marks rs)) ∧ (∀ z ∈ ws, z ∈ rs) ∧ Q .non H
theorem scCkKnown : FnScope ["wires", "known", "wire"] ["wires", "known"] (defScope sCkKnown) := ⟨rfl, rfl, rfl, by decide +kernel, rfl, by decide +kernel, by decide +kernel⟩
theorem ok_ckKnown {f : Addr} {fd : FuncData} (F : Fun K "check_known" "check_known" sCkKnown f fd) : FnOk P w K mg base CX0 1 f fd ["wires", "known"] spCkKnown := by
  refine F.ok scCkKnown (fun vs H Q E h => ?_) (fun cdv A outer s H vs Q E hr h => ?_)
  · obtain ⟨l, d, ws, rs, rfl, _⟩ := h
    rfl
  obtain ⟨l, d, ws, rs, rfl, hl, hd, hk, q⟩ := h
  refine ⟨_, (pss_one (ps_for PassesOwn.never rfl (pi_list (pv 0)) (pg_name (i := 2) scCkKnown.nd rfl (by first | exact Or.inl rfl | exact Or.inr rfl))
 (pss_one (ps_if (pt_cmp (pc_dnotin (hu_of hr) (pv 2) (pv 1)))
 pss_never
 pss_nil)))), ?_⟩
  refine ⟨.ref l, rfl, l, rfl, ⟨_, SqL.of hl⟩, ?_⟩
  refine for_list (xs := ws.map V.str) (fun i σ H2 => (∃ v2, σ = [some (.ref l), some (.ref d), v2]) ∧ H2 = H) ⟨⟨_, rfl⟩, rfl⟩ (fun i σ H2 _ h => by rw [h.2]; exact SqL.of hl) ?_ ?_
  · rintro i x σ H2 hx ⟨⟨v2, rfl⟩, rfl⟩
    rw [List.getElem?_map] at hx
    cases e : ws[i]? with
    | none => rw [e] at hx; cases hx
    | some z =>
      rw [e] at hx
      cases hx
      refine ⟨_, rfl, _, rfl, d, _, rfl, DGet.k (k := Sum.inr z) hd, _, rfl, ?_⟩
      rw [marks_get, if_pos (hk z (List.mem_of_getElem? e))]
      exact iteF ⟨⟨_, rfl⟩, rfl⟩
  · rintro σ H2 ⟨⟨v2, rfl⟩, rfl⟩
    exact q
def spCkWires : Sp := fun vs H Q _ => ∃ (o u : Addr) (us : List V) (ps : List Pt) (os : List Str), vs = [.ref o, .ref u] ∧ PsAt H o us ps ∧ H u = some (.lst (os.map V.str)) ∧ (wiresP ps).Nodup ∧ (∀ p ∈ ps, ∀ e ∈ endsP p, e ∈ wiresP ps) ∧ (∀ z ∈ os, z ∈ wiresP ps) ∧ ∀ H', Same H H' → Q .non H'
theorem scCkWires : FnScope ["parts", "outs", "known", "part"] ["parts", "outs"] (defScope sCkWires) := ⟨rfl, rfl, rfl, by decide +kernel, rfl, by decide +kernel, by decide +kernel⟩
theorem nd_take {xs : List Str} {i : Nat} {x : Str} (h : xs.Nodup) (hx : xs[i]? = some x) : x ∉ xs.take i := by
  intro hm
  obtain ⟨j, hj⟩ := List.getElem?_of_mem hm
  rw [List.getElem?_take] at hj
  split at hj
  · rename_i lt
    obtain ⟨h1, e1⟩ := List.getElem?_eq_some_iff.mp hj
    obtain ⟨h2, e2⟩ := List.getElem?_eq_some_iff.mp hx
    have := (List.nodup_iff_pairwise_ne.mp h)
    rw [List.pairwise_iff_getElem] at this
    exact this j i h1 h2 lt (e1.trans e2.symm)
  · cases hj
theorem ok_ckWires {f fk fw : Addr} {fd dk dw : FuncData} (F : Fun K "check_wires" "check_wires" sCkWires f fd) (GK : Df P w K mg base 1 fk dk "check_known" ["wires", "known"] spCkKnown) (GW : Df P w K mg base 1 fw dw "wires_in" ["part"] (spStrs endsP)) : FnOk P w K mg base CX0 2 f fd ["parts", "outs"] spCkWires := by
  refine F.ok scCkWires (fun vs H Q E h => ?_) (fun cdv A outer s H vs Q E hr h => ?_)
  · obtain ⟨o, u, us, ps, os, rfl, _⟩ := h
    rfl
  obtain ⟨o, u, us, ps, os, rfl, pa, hu, nd, hk, ho, q⟩ := h
  refine ⟨_, (pss_cons (ps_set (i := 2) scCkWires.nd rfl (by first | exact Or.inl rfl | exact Or.inr rfl) pe_dnewK)
 (pss_cons (ps_for PassesOwn.never rfl (pi_list (pv 0)) (pg_name (i := 3) scCkWires.nd rfl (by first | exact Or.inl rfl | exact Or.inr rfl))
 (pss_cons (ps_if (pt_cmp (pc_din (hu_of hr) (pe_ix ix_tup (pv 3) pe_int (fun _ _ => rfl)) (pv 2)))
 pss_never
 pss_nil)
 (pss_one (ps_dput (hu_of hr) (pv 2) (pe_ix ix_tup (pv 3) pe_int (fun _ _ => rfl)) pe_bl rfl))))
 (pss_cons (ps_for PassesOwn.never rfl (pi_list (pv 0)) (pg_name (i := 3) scCkWires.nd rfl (by first | exact Or.inl rfl | exact Or.inr rfl))
 (pss_one (ps_expr (pe_call GK.ok (hr.mono (by decide)) (by rfl) GK.m GK.kp GK.b .nil pass0 (pa_cons (pe_call GW.ok (hr.mono (by decide)) (by rfl) GW.m GW.kp GW.b .nil pass0 (pa_cons (pv 3) pa_nil)) (pa_cons (pv 2) pa_nil))))))
 (pss_one (ps_expr (pe_call GK.ok (hr.mono (by decide)) (by rfl) GK.m GK.kp GK.b .nil pass0 (pa_cons (pv 1) (pa_cons (pv 2) pa_nil)))))))), ?_⟩
  intro d hd
  have s1 := same_upd hd (.dK [])
  have pl := pa.l
  refine ⟨.ref o, rfl, o, rfl, ⟨_, SqL.of (s1 _ _ pa.at_)⟩, ?_⟩
  refine for_list (xs := us) (fun i σ H2 => (∃ v3, σ = [some (.ref o), some (.ref u), some (.ref d), v3]) ∧ Same H H2 ∧ H2 d = some (.dK (marks ((wiresP ps).take i)))) ⟨⟨_, rfl⟩, s1, upd_same⟩ (fun i σ H2 _ h => SqL.of (h.2.1 _ _ pa.at_)) ?_ ?_
  · rintro i x σ H2 hx ⟨⟨v3, rfl⟩, s2, hd2⟩
    obtain ⟨p, hp, pt, _⟩ := (pa.same s2).nth hx
    obtain ⟨a, r, rfl, ha⟩ := pt.two
    have hw : (wiresP ps)[i]? = some (Pw p) := by rw [List.getElem?_map, hp]; rfl
    have hn := nd_take nd hw
    refine ⟨_, rfl, a, _, 1, _, rfl, rfl, SqT.of ha, atI_nat (j := 1) rfl, _, rfl, d, _, rfl, DGet.k (k := Sum.inr (Pw p)) hd2, _, rfl, ?_⟩
    rw [marks_get, if_neg hn]
    refine iteF ?_
    have lt : (marks ((wiresP ps).take i)).length < sizeLine := by
      unfold marks
      rw [List.length_map]
      exact small1000 (Nat.le_trans (List.length_take_le _ _) (by
        have hi := (List.getElem?_eq_some_iff.mp hp).1
        omega))
    refine ⟨_, rfl, _, rfl, a, _, 1, _, rfl, rfl, SqT.of ha, atI_nat (j := 1) rfl, d, _, rfl, DPut.k (k := Sum.inr (Pw p)) hd2 lt, ?_⟩
    rw [marks_put hn]
    refine ⟨⟨_, rfl⟩, fun b ob hb => ?_, ?_⟩
    · rw [upd_ne (ne_of_none hb hd)]
      exact s2 _ _ hb
    · rw [upd_same, List.take_add_one, hw]
      rfl
  · rintro σ H2 ⟨⟨v3, rfl⟩, s2, hd2⟩
    rw [pa.all.1, ← List.length_map (f := Pw), List.take_length] at hd2
    refine ⟨.ref o, rfl, o, rfl, ⟨_, SqL.of (s2 _ _ pa.at_)⟩, ?_⟩
    refine for_list (xs := us) (fun i σ H3 => (∃ v3, σ = [some (.ref o), some (.ref u), some (.ref d), v3]) ∧ Same H2 H3) ⟨⟨_, rfl⟩, Same.refl _⟩ (fun i σ H3 _ h => SqL.of (h.2 _ _ (s2 _ _ pa.at_))) ?_ ?_
    · rintro i x σ H3 hx ⟨⟨v3, rfl⟩, s3⟩
      obtain ⟨p, hp, pt, pp⟩ := (pa.same (s2.trans s3)).nth hx
      refine ⟨_, rfl, x, p, rfl, pt, pp.ok, pp.sm, pp.nu, fun l H4 s4 hl hl4 => ?_⟩
      exact ⟨_, rfl, l, d, endsP p, wiresP ps, rfl, hl4, s4 _ _ (s3 _ _ hd2), fun z hz => hk p (List.mem_of_getElem? hp) z hz, ⟨_, rfl⟩, s3.trans s4⟩
    · rintro σ H3 ⟨⟨v3, rfl⟩, s3⟩
      exact ⟨_, rfl, _, rfl, u, d, os, wiresP ps, rfl, s3 _ _ (s2 _ _ hu), s3 _ _ hd2, ho, q _ (s2.trans s3)⟩
end
end Un
namespace Un
open PySem L2 TL
section
variable {P : Program} {w : World} {K : PySem.W.Frag} {mg : Str → Option Value} {base : Heap}
theorem ixT {X : Cx} {K : PySem.W.Frag} (h : X.K = K) : IxR X (rIxT K) := h ▸ ix_tup
theorem op_inK {X : Cx} {K : PySem.W.Frag} {w : World} {d : Addr} {es : Array DictEntry} {n : Nat} (hK : X.K = K) (hw : X.w = w) (D : KDict K w d es n) : OpR X (compareOp .In) (fun x y H Q => ∃ (z : Str) (r : Option Value), x = .str z ∧ y = .ref d ∧ PySem.W.nsIn K d z = some r ∧ Q (.bl r.isSome) H) := by
  subst hK hw
  exact op_in_kd D
def spCkUses : Sp := fun vs H Q _ => ∃ (o : Addr) (us : List V) (ps : List Pt) (y : V), vs = [.ref o, y] ∧ PsAt H o us ps ∧ ∀ H', Same H H' → Q .non H'
theorem scCkUses : FnScope ["parts", "pieces", "at", "part", "piece"] ["parts", "pieces"] (defScope sCkUses) := ⟨rfl, rfl, rfl, by decide +kernel, rfl, by decide +kernel, by decide +kernel⟩
theorem ok_ckUses {f : Addr} {fd : FuncData} (F : Fun K "check_uses" "check_uses" sCkUses f fd) (T : NetTxt K w mg) : FnOk P w K mg base CX0 1 f fd ["parts", "pieces"] spCkUses := by
  refine F.ok scCkUses (fun vs H Q E h => ?_) (fun cdv A outer s H vs Q E hr h => ?_)
  · obtain ⟨o, us, ps, y, rfl, _⟩ := h
    rfl
  obtain ⟨o, us, ps, y, rfl, pa, q⟩ := h
  refine ⟨_, (pss_one (ps_for PassesOwn.never rfl (pi_enum (by rfl) T.enum (pa_cons (pv 0) pa_nil)) (pg_tup (by rfl) (pgs_cons (pg_name (i := 2) scCkUses.nd rfl (by first | exact Or.inl rfl | exact Or.inr rfl)) (pgs_cons (pg_name (i := 3) scCkUses.nd rfl (by first | exact Or.inl rfl | exact Or.inr rfl)) pgs_nil)))
 (pss_one (ps_if (pt_cmpR op_eq (pe_ix ix_tup (pv 3) pe_int (fun _ _ => rfl)) pe_str (nomark _))
 pss_never
 pss_nil)))), ?_⟩
  refine ⟨_, rfl, o, _, rfl, SqL.of pa.at_, ?_⟩
  refine for_it walk_enum (fun i σ H2 => (∃ v2 v3 v4, σ = [some (.ref o), some y, v2, v3, v4]) ∧ Same H H2) ⟨⟨_, _, _, rfl⟩, Same.refl H⟩ (fun i σ H2 _ h => SqL.of (h.2 _ _ pa.at_)) ?_ ?_
  · rintro i v σ H2 H3 hi ⟨⟨v2, v3, v4, rfl⟩, s2⟩ ⟨t, x, z, rfl, ht, rfl, hx, hz⟩
    cases hx
    have hz : us[i]? = some z := hz
    have s3 := s2.trans (same_upd ht (.tup [.int i, z]))
    obtain ⟨p, hp, pt, pp⟩ := (pa.same s3).nth hz
    obtain ⟨a, r, rfl, ha⟩ := pt.two
    refine ⟨t, _, rfl, SqT.of upd_same, rfl, _, _, rfl, _, _, rfl, rfl, ?_⟩
    refine ⟨_, rfl, a, _, 0, _, rfl, rfl, SqT.of ha, atI_nat (j := 0) rfl, rfl, _, rfl, ?_⟩
    rw [decide_eq_false (fun e => not_use pp.sm pp.nu (V.str.inj e))]
    exact iteF ⟨⟨_, _, _, rfl⟩, s3⟩
  · rintro σ H2 ⟨⟨v2, v3, v4, rfl⟩, s2⟩
    exact q H2 s2
def spPlainOf : Sp := fun vs H Q _ => ∃ (o : Addr) (us : List V) (ps : List Pt) (y : V), vs = [.ref o, y] ∧ PsAt H o us ps ∧ ∀ (m : Addr) (H' : Hp), Same H H' → H m = none → H' m = some (.lst us) → Q (.ref m) H'
theorem scPlainOf : FnScope ["parts", "pieces", "made", "part"] ["parts", "pieces"] (defScope sPlainOf) := ⟨rfl, rfl, rfl, by decide +kernel, rfl, by decide +kernel, by decide +kernel⟩
theorem ok_plainOf {f : Addr} {fd : FuncData} (F : Fun K "plain_of" "plain_of" sPlainOf f fd) : FnOk P w K mg base CX0 1 f fd ["parts", "pieces"] spPlainOf := by
  refine F.ok scPlainOf (fun vs H Q E h => ?_) (fun cdv A outer s H vs Q E hr h => ?_)
  · obtain ⟨o, us, ps, y, rfl, _⟩ := h
    rfl
  obtain ⟨o, us, ps, y, rfl, pa, q⟩ := h
  refine ⟨_, (pss_cons (ps_set (i := 2) scPlainOf.nd rfl (by first | exact Or.inl rfl | exact Or.inr rfl) (pe_lst pa_nil))
 (pss_cons (ps_for PassesOwn.never rfl (pi_list (pv 0)) (pg_name (i := 3) scPlainOf.nd rfl (by first | exact Or.inl rfl | exact Or.inr rfl))
 (pss_one (ps_if (pt_cmpR op_eq (pe_ix ix_tup (pv 3) pe_int (fun _ _ => rfl)) pe_str (nomark _))
 pss_never
 (pss_one (ps_expr (pe_bm PySem.F.plainAttrs_list PySem.F.slot_list_append PySem.F.type_list_append mt_append (pv 2) (pa_cons (pv 3) pa_nil)))))))
 (pss_one (ps_ret (pv 2))))), ?_⟩
  refine ⟨(by show 0 ≤ sizeLine; decide), fun m hm => ?_⟩
  have s1 := same_upd hm (.lst [])
  have pl := pa.l
  refine ⟨.ref o, rfl, o, rfl, ⟨_, SqL.of (s1 _ _ pa.at_)⟩, ?_⟩
  refine for_list (xs := us) (fun i σ H2 => (∃ v3, σ = [some (.ref o), some y, some (.ref m), v3]) ∧ Same H H2 ∧ H2 m = some (.lst (us.take i))) ⟨⟨_, rfl⟩, s1, upd_same⟩ (fun i σ H2 _ h => SqL.of (h.2.1 _ _ pa.at_)) ?_ ?_
  · rintro i x σ H2 hx ⟨⟨v3, rfl⟩, s2, hm2⟩
    obtain ⟨p, hp, pt, pp⟩ := (pa.same s2).nth hx
    obtain ⟨a, r, rfl, ha⟩ := pt.two
    refine ⟨_, rfl, a, _, 0, _, rfl, rfl, SqT.of ha, atI_nat (j := 0) rfl, rfl, _, rfl, ?_⟩
    rw [decide_eq_false (fun e => not_use pp.sm pp.nu (V.str.inj e))]
    refine iteF ?_
    refine ⟨_, rfl, .inl ⟨rfl, _, SqL.of hm2⟩, _, rfl, m, _, _, rfl, rfl, hm2, ?_, ⟨_, rfl⟩, fun b ob hb => ?_, ?_⟩
    · have hi := (List.getElem?_eq_some_iff.mp hp).1
      exact Nat.lt_of_le_of_lt (List.length_take_le _ _) (small1000 (by omega))
    · rw [upd_ne (ne_of_none hb hm)]
      exact s2 _ _ hb
    · rw [upd_same, List.take_add_one, hx]
      rfl
  · rintro σ H2 ⟨⟨v3, rfl⟩, s2, hm2⟩
    rw [List.take_length] at hm2
    exact ⟨_, rfl, q m H2 s2 hm hm2⟩
/-- the boxes of parts: wire, kind, name -/
def boxP : Pt → List (Str × Str × Str)
  | .flat k w (f :: _) => [(w, k, f)]
  | _ => []
def boxesP (ps : List Pt) : List (Str × Str × Str) := ps.flatMap boxP
def B3At (H : Hp) (v : V) (b : Str × Str × Str) : Prop := ∃ a, v = .ref a ∧ H a = some (.tup [.str b.1, .str b.2.1, .str b.2.2])
theorem B3At.same {H H' : Hp} (s : Same H H') {v : V} {b : Str × Str × Str} (h : B3At H v b) : B3At H' v b := by
  obtain ⟨a, e, h⟩ := h
  exact ⟨a, e, s _ _ h⟩
def spBoxesIn : Sp := fun vs H Q _ => ∃ (o : Addr) (us : List V) (ps : List Pt), vs = [.ref o] ∧ PsAt H o us ps ∧ ∀ (l : Addr) (bs : List V) (H' : Hp), Same H H' → H l = none → H' l = some (.lst bs) → All2 (B3At H') bs (boxesP ps) → Q (.ref l) H'
theorem scBoxesIn : FnScope ["plain", "part"] ["plain"] (defScope sBoxesIn) := ⟨rfl, rfl, rfl, by decide +kernel, rfl, by decide +kernel, by decide +kernel⟩
theorem boxP_len (p : Pt) : (boxP p).length ≤ 1 := by
  cases p with
  | flat k w es => cases es with
    | nil => exact Nat.zero_le _
    | cons => exact Nat.le_refl _
  | mix => exact Nat.zero_le _
  | use => exact Nat.zero_le _
theorem boxesP_len (ps : List Pt) : (boxesP ps).length ≤ ps.length := by
  induction ps with
  | nil => exact Nat.le_refl _
  | cons p ps ih =>
    show (boxP p ++ boxesP ps).length ≤ _
    have := boxP_len p
    rw [List.length_append, List.length_cons]
    omega
theorem boxesP_snoc (ps : List Pt) (p : Pt) : boxesP (ps ++ [p]) = boxesP ps ++ boxP p := by
  unfold boxesP
  rw [List.flatMap_append]
  simp
/-- a part is a box, or isn't -/
theorem PlP.kinds {p : Pt} (h : PlP p) : (kindP p ∈ kinds4 ∧ ∃ k w f es, p = .flat k w (f :: es)) ∨ ((kindP p = "source" ∨ kindP p = "mix" ∨ kindP p = "use") ∧ boxP p = []) := by
  cases p with
  | flat k w es =>
    obtain ⟨_, hk⟩ := h.ok
    rcases hk with ⟨rfl, rfl⟩ | ⟨hk, f, e, rfl, _⟩ | ⟨rfl, f, e, g, rfl, _⟩
    · exact .inr ⟨.inl rfl, rfl⟩
    · refine .inl ⟨?_, _, _, _, _, rfl⟩
      show k ∈ kinds4
      rcases hk with rfl | rfl | rfl <;> decide
    · exact .inl ⟨by show ("pair" : Str) ∈ kinds4; decide, _, _, _, _, rfl⟩
  | mix w ts => exact .inr ⟨.inr (.inl rfl), rfl⟩
  | use w p es => exact False.elim h.nu
theorem ok_boxesIn {f : Addr} {fd : FuncData} (F : Fun K "boxes_in" "boxes_in" sBoxesIn f fd) (T : NetTxt K w mg) : FnOk P w K mg base CX0 1 f fd ["plain"] spBoxesIn := by
  refine F.ok scBoxesIn (fun vs H Q E h => ?_) (fun cdv A outer s H vs Q E hr h => ?_)
  · obtain ⟨o, us, ps, rfl, _⟩ := h
    rfl
  obtain ⟨o, us, ps, rfl, pa, q⟩ := h
  obtain ⟨d, es, n, mends, D, e4, e0⟩ := T.ends
  refine ⟨_, (pss_one (ps_ret (pe_lc (own := [("part", 1)]) (g := (gName 1)) rfl scBoxesIn.nd (pi_list (pv 0)) (blkOk_by (own := [("part", 1)]) (N := ["plain", "part"]) (sc := defScope sBoxesIn) (by decide +kernel)) (fun _ _ _ _ _ => (pg_name (i := 1) scBoxesIn.nd rfl (Or.inl rfl) (Or.inr rfl))) (fun _ _ _ _ _ => (pts_one (pt_cmpR (op_inK (K := K) (w := w) rfl rfl D) (pe_ix (ixT (K := K) rfl) (pv 1) pe_int (fun _ _ => rfl)) (pe_glob (v := .ref d) (by rfl) mends rfl) (by rfl)))) (fun _ _ _ _ _ => (pe_tup (pa_cons (pe_ix (ixT (K := K) rfl) (pv 1) pe_int (fun _ _ => rfl)) (pa_cons (pe_ix (ixT (K := K) rfl) (pv 1) pe_int (fun _ _ => rfl)) (pa_cons (pe_ix (ixT (K := K) rfl) (pv 1) pe_int (fun _ _ => rfl)) pa_nil)))))))), ?_⟩
  have pl := pa.l
  refine ⟨.ref o, rfl, o, rfl, ⟨_, SqL.of pa.at_⟩, fun l hl => ?_⟩
  refine lc_list (xs := us) (fun i H2 => Same H H2 ∧ ∃ bs, H2 l = some (.lst bs) ∧ All2 (B3At H2) bs (boxesP (ps.take i))) ⟨same_upd hl _, [], upd_same, rfl, fun i u v hu => by cases hu⟩ (fun i H2 _ h => SqL.of (h.1 _ _ pa.at_)) (fun i x H2 hx ⟨s2, bs, hl2, hb2⟩ => ?_) (fun H2 ⟨s2, bs, hl2, hb2⟩ => ?_)
  · obtain ⟨p, hp, pt, pp⟩ := (pa.same s2).nth hx
    have htk : ps.take (i + 1) = ps.take i ++ [p] := by rw [List.take_add_one, hp]; rfl
    have hi := (List.getElem?_eq_some_iff.mp hp).1
    rw [htk, boxesP_snoc]
    rcases pp.kinds with ⟨k4, k, wr, f, es', rfl⟩ | ⟨k3, hb0⟩
    · obtain ⟨a, rfl, ha⟩ := pt
      obtain ⟨t, et⟩ := e4 k k4
      refine ⟨rfl, _, rfl, a, _, 0, _, rfl, rfl, SqT.of ha, atI_nat (j := 0) rfl, k, _, rfl, rfl, et, _, rfl, iteT ?_⟩
      refine ⟨_, rfl, a, _, 1, _, rfl, rfl, SqT.of ha, atI_nat (j := 1) rfl, _, rfl, a, _, 0, _, rfl, rfl, SqT.of ha, atI_nat (j := 0) rfl, _, rfl, a, _, 2, _, rfl, rfl, SqT.of ha, atI_nat (j := 2) rfl, (by show 3 ≤ sizeLine; decide), fun t ht => ?_⟩
      have s3 := same_upd ht (.tup [.str wr, .str k, .str f])
      have nlt : l ≠ t := ne_of_none hl2 ht
      refine ⟨bs, by rw [upd_ne nlt]; exact hl2, ?_, fun b ob hb => ?_, _, upd_same, ?_⟩
      · rw [hb2.1]
        exact small1000 (Nat.le_trans (boxesP_len _) (Nat.le_trans (List.length_take_le _ _) (by omega)))
      · rw [upd_ne (ne_of_none hb hl)]
        exact s3 _ _ (s2 _ _ hb)
      · have s4 : ∀ b xs, H2 b = some (.tup xs) → upd (upd H2 t (.tup [.str wr, .str k, .str f])) l (.lst (bs ++ [.ref t])) b = some (.tup xs) := fun b xs hb => by
          rw [upd_ne (ne_of hb hl2 (by intro z; cases z))]
          exact s3 _ _ hb
        refine All2.snoc (hb2.mono fun u v z => ?_) ⟨t, rfl, ?_⟩
        · obtain ⟨c, e, hc⟩ := z
          exact ⟨c, e, s4 _ _ hc⟩
        · rw [upd_ne nlt.symm]
          exact upd_same
    · obtain ⟨a, r, rfl, ha⟩ := pt.two
      refine ⟨rfl, _, rfl, a, _, 0, _, rfl, rfl, SqT.of ha, atI_nat (j := 0) rfl, kindP p, _, rfl, rfl, e0 _ k3, _, rfl, iteF ?_⟩
      rw [hb0, List.append_nil]
      exact ⟨s2, bs, hl2, hb2⟩
  · rw [pa.all.1, List.take_length] at hb2
    exact q l bs H2 s2 hl hl2 hb2
/-- boxes of one name are of one kind -/
def Agree (bs : List (Str × Str × Str)) : Prop := ∀ x ∈ bs, ∀ y ∈ bs, x.2.2 = y.2.2 → x.2.1 = y.2.1
def spCkKinds : Sp := fun vs H Q _ => ∃ (l : Addr) (vs' : List V) (bs : List (Str × Str × Str)), vs = [.ref l] ∧ H l = some (.lst vs') ∧ All2 (B3At H) vs' bs ∧ bs.length ≤ 100 ∧ Agree bs ∧ ∀ H', Same H H' → Q .non H'
theorem scCkKinds : FnScope ["boxes", "kinds", "_", "kind", "box"] ["boxes"] (defScope sCkKinds) := ⟨rfl, rfl, rfl, by decide +kernel, rfl, by decide +kernel, by decide +kernel⟩
theorem ok_ckKinds {f : Addr} {fd : FuncData} (F : Fun K "check_kinds" "check_kinds" sCkKinds f fd) : FnOk P w K mg base CX0 1 f fd ["boxes"] spCkKinds := by
  refine F.ok scCkKinds (fun vs H Q E h => ?_) (fun cdv A outer s H vs Q E hr h => ?_)
  · obtain ⟨l, vs', bs, rfl, _⟩ := h
    rfl
  obtain ⟨l, vs', bs, rfl, hl, hA, len, ag, q⟩ := h
  refine ⟨_, (pss_cons (ps_set (i := 1) scCkKinds.nd rfl (by first | exact Or.inl rfl | exact Or.inr rfl) pe_dnewK)
 (pss_one (ps_for PassesOwn.never rfl (pi_list (pv 0)) (pg_tup (by rfl) (pgs_cons (pg_name (i := 2) scCkKinds.nd rfl (by first | exact Or.inl rfl | exact Or.inr rfl)) (pgs_cons (pg_name (i := 3) scCkKinds.nd rfl (by first | exact Or.inl rfl | exact Or.inr rfl)) (pgs_cons (pg_name (i := 4) scCkKinds.nd rfl (by first | exact Or.inl rfl | exact Or.inr rfl)) pgs_nil))))
 (pss_one (ps_if (pt_cmpR op_ne (pe_dsetd (pv 1) (pv 4) (pv 3) ⟨rfl, rfl, rfl, rfl⟩) (pv 3) (nomark _))
 pss_never
 pss_nil))))), ?_⟩
  intro d hd
  have s1 := same_upd hd (.dK [])
  refine ⟨.ref l, rfl, l, rfl, ⟨_, SqL.of (s1 _ _ hl)⟩, ?_⟩
  refine for_list (xs := vs') (fun i σ H2 => (∃ v2 v3 v4, σ = [some (.ref l), some (.ref d), v2, v3, v4]) ∧ Same H H2 ∧ ∃ kvs : List (Key × V), H2 d = some (.dK kvs) ∧ kvs.length ≤ i ∧ ∀ z v, valV kvs (Sum.inr z) = some v → ∃ x ∈ bs, x.2.2 = z ∧ v = .str x.2.1)
    ⟨⟨_, _, _, rfl⟩, s1, [], upd_same, Nat.le_refl _, fun z v h => by cases h⟩ (fun i σ H2 _ h => SqL.of (h.2.1 _ _ hl)) ?_ ?_
  · rintro i x σ H2 hx ⟨⟨v2, v3, v4, rfl⟩, s2, kvs, hd2, kl, kv⟩
    have hi : i < vs'.length := (List.getElem?_eq_some_iff.mp hx).1
    obtain ⟨b, hb⟩ : ∃ b, bs[i]? = some b := ⟨bs[i]'(by rw [← hA.1]; exact hi), List.getElem?_eq_getElem _⟩
    obtain ⟨a, rfl, ha⟩ := (hA.2 i x b hx hb).same s2
    have hbm := List.mem_of_getElem? hb
    refine ⟨a, _, rfl, SqT.of ha, rfl, _, _, rfl, _, _, rfl, _, _, rfl, rfl, ?_⟩
    have lt : kvs.length < sizeLine := small1000 (by have := hA.1; omega)
    refine ⟨_, rfl, d, rfl, .inl ⟨kvs, .inl hd2⟩, _, rfl, _, rfl, kvs, Sum.inr b.2.2, hd2, rfl, lt, fun v hv => ?_, fun hv => ?_⟩
    · obtain ⟨y, hy, e1, rfl⟩ := kv _ _ hv
      have := ag y hy b hbm e1
      refine ⟨_, rfl, rfl, _, rfl, ?_⟩
      rw [show (!decide (V.str y.2.1 = V.str b.2.1)) = false by rw [this]; simp]
      exact iteF ⟨⟨_, _, _, rfl⟩, s2, kvs, hd2, by omega, kv⟩
    · refine ⟨_, rfl, rfl, _, rfl, ?_⟩
      rw [show (!decide (V.str b.2.1 = V.str b.2.1)) = false by simp]
      refine iteF ⟨⟨_, _, _, rfl⟩, fun c oc hc => ?_, putK kvs (Sum.inr b.2.2) (.str b.2.1), upd_same, ?_, fun z v hz => ?_⟩
      · rw [upd_ne (ne_of_none hc hd)]
        exact s2 _ _ hc
      · have := length_putK kvs (Sum.inr b.2.2) (V.str b.2.1)
        omega
      · rw [valV_put] at hz
        split at hz
        · rename_i e
          cases hz
          exact ⟨b, hbm, (Sum.inr.inj e).symm, rfl⟩
        · exact kv z v hz
  · rintro σ H2 ⟨_, s2, _⟩
    exact q H2 s2
end
end Un
namespace Un
open PySem L2 TL
section
variable {P : Program} {w : World} {K : PySem.W.Frag} {mg : Str → Option Value} {base : Heap}
/-! ### nets -/
abbrev sNet : Stmt := top 60
abbrev sN_init : Stmt := inClass sNet 2
abbrev sN_parts : Stmt := inClass sNet 3
abbrev sN_outs : Stmt := inClass sNet 4
abbrev sN_plain : Stmt := inClass sNet 5
abbrev sN_wires : Stmt := inClass sNet 6
abbrev sN_sources : Stmt := inClass sNet 7
abbrev sN_boxes : Stmt := inClass sNet 8
abbrev sN_kinds : Stmt := inClass sNet 9
abbrev sN_text : Stmt := inClass sNet 10
abbrev sN_eq : Stmt := inClass sNet 15
abbrev sN_contains : Stmt := inClass sNet 16
abbrev sN_len : Stmt := inClass sNet 17
abbrev sN_bool : Stmt := inClass sNet 18
abbrev sN_repr : Stmt := inClass sNet 19
structure NetC (K : PySem.W.Frag) (C : Addr) : Prop where
  cl : Cls K C
  p : NoAttr K C "_parts"
  o : NoAttr K C "_outs"
  d : NoAttr K C "_pieces"
  m : NoAttr K C "_plain"
  most : ∃ u, Con K C "MOST" (.int 16) u
  boxes : ∃ u, Con K C "BOXES" (.int 8) u
structure Mt (P : Program) (w : World) (K : PySem.W.Frag) (mg : Str → Option Value) (base : Heap) (C : Addr) (k : Nat) (f : Addr) (fd : FuncData) (m : Str) (ps : List Str) (sp : Sp) : Prop where
  mt : Meth K C m f
  ok : FnOk P w K mg base CX0 k f fd ps sp
  b : Binds K fd ps []
def spFldL (K : PySem.W.Frag) (C : Addr) (f : Str) : Sp := fun vs H Q _ => ∃ (a dx p : Addr) (fs : List (Str × V)) (us : List V), vs = [.ref a] ∧ H a = some (.ins C dx fs) ∧ fs.lookup f = some (.ref p) ∧ H p = some (.lst us) ∧ ∀ l, H l = none → Q (.ref l) (upd H l (.lst us))
def spStrOf (C : Addr) (f : Str) (g : List Pt → List Str) : Sp := fun vs H Q _ => ∃ (a dx p : Addr) (fs : List (Str × V)) (us : List V) (ps : List Pt), vs = [.ref a] ∧ H a = some (.ins C dx fs) ∧ fs.lookup f = some (.ref p) ∧ PsAt H p us ps ∧ ∀ (l : Addr) (H' : Hp), Same H H' → H l = none → H' l = some (.lst ((g ps).map V.str)) → Q (.ref l) H'
def spBoxesM (C : Addr) : Sp := fun vs H Q _ => ∃ (a dx p : Addr) (fs : List (Str × V)) (us : List V) (ps : List Pt), vs = [.ref a] ∧ H a = some (.ins C dx fs) ∧ fs.lookup ("_plain" : Str) = some (.ref p) ∧ PsAt H p us ps ∧ ∀ (l : Addr) (bs : List V) (H' : Hp), Same H H' → H l = none → H' l = some (.lst bs) → All2 (B3At H') bs (boxesP ps) → Q (.ref l) H'
theorem scN_parts : FnScope ["self"] ["self"] (defScope sN_parts) := ⟨rfl, rfl, rfl, by decide +kernel, rfl, by decide +kernel, by decide +kernel⟩
theorem ok_n_parts {f C : Addr} {fd : FuncData} (F : Fun K "parts" "Net.parts" sN_parts f fd) (C' : NetC K C) (mlist : mg "list" = none) : FnOk P w K mg base CX0 1 f fd ["self"] (spFldL K C "_parts") := by
  refine F.ok scN_parts (fun vs H Q E h => ?_) (fun cdv A outer s H vs Q E hr h => ?_)
  · obtain ⟨a, dx, p, fs, us, rfl, _⟩ := h
    rfl
  obtain ⟨a, dx, p, fs, us, rfl, ha, hf, hp, q⟩ := h
  refine ⟨_, (pss_one (ps_ret (pe_callTy call_list_of (by rfl) mlist (by decide +kernel) (pa_cons (pe_fld (pv 0) rfl) pa_nil)))), ?_⟩
  exact ⟨_, rfl, a, C, dx, fs, _, rfl, ha, C'.cl, C'.p, hf, p, us, rfl, .inl (SqL.of hp), fun l hl => q l hl⟩
theorem scN_outs : FnScope ["self"] ["self"] (defScope sN_outs) := ⟨rfl, rfl, rfl, by decide +kernel, rfl, by decide +kernel, by decide +kernel⟩
theorem ok_n_outs {f C : Addr} {fd : FuncData} (F : Fun K "outs" "Net.outs" sN_outs f fd) (C' : NetC K C) (mlist : mg "list" = none) : FnOk P w K mg base CX0 1 f fd ["self"] (spFldL K C "_outs") := by
  refine F.ok scN_outs (fun vs H Q E h => ?_) (fun cdv A outer s H vs Q E hr h => ?_)
  · obtain ⟨a, dx, p, fs, us, rfl, _⟩ := h
    rfl
  obtain ⟨a, dx, p, fs, us, rfl, ha, hf, hp, q⟩ := h
  refine ⟨_, (pss_one (ps_ret (pe_callTy call_list_of (by rfl) mlist (by decide +kernel) (pa_cons (pe_fld (pv 0) rfl) pa_nil)))), ?_⟩
  exact ⟨_, rfl, a, C, dx, fs, _, rfl, ha, C'.cl, C'.o, hf, p, us, rfl, .inl (SqL.of hp), fun l hl => q l hl⟩
theorem scN_plain : FnScope ["self"] ["self"] (defScope sN_plain) := ⟨rfl, rfl, rfl, by decide +kernel, rfl, by decide +kernel, by decide +kernel⟩
theorem ok_n_plain {f C : Addr} {fd : FuncData} (F : Fun K "plain" "Net.plain" sN_plain f fd) (C' : NetC K C) (mlist : mg "list" = none) : FnOk P w K mg base CX0 1 f fd ["self"] (spFldL K C "_plain") := by
  refine F.ok scN_plain (fun vs H Q E h => ?_) (fun cdv A outer s H vs Q E hr h => ?_)
  · obtain ⟨a, dx, p, fs, us, rfl, _⟩ := h
    rfl
  obtain ⟨a, dx, p, fs, us, rfl, ha, hf, hp, q⟩ := h
  refine ⟨_, (pss_one (ps_ret (pe_callTy call_list_of (by rfl) mlist (by decide +kernel) (pa_cons (pe_fld (pv 0) rfl) pa_nil)))), ?_⟩
  exact ⟨_, rfl, a, C, dx, fs, _, rfl, ha, C'.cl, C'.m, hf, p, us, rfl, .inl (SqL.of hp), fun l hl => q l hl⟩
theorem scN_wires : FnScope ["self", "part"] ["self"] (defScope sN_wires) := ⟨rfl, rfl, rfl, by decide +kernel, rfl, by decide +kernel, by decide +kernel⟩
theorem ok_n_wires {f C : Addr} {fd : FuncData} (F : Fun K "wires" "Net.wires" sN_wires f fd) (C' : NetC K C) : FnOk P w K mg base CX0 1 f fd ["self"] (spStrOf C "_plain" wiresP) := by
  refine F.ok scN_wires (fun vs H Q E h => ?_) (fun cdv A outer s H vs Q E hr h => ?_)
  · obtain ⟨a, dx, p, fs, us, ps, rfl, _⟩ := h
    rfl
  obtain ⟨a, dx, p, fs, us, ps, rfl, ha, hf, pa, q⟩ := h
  have pl := pa.l
  refine ⟨_, (pss_one (ps_ret (pe_lc (own := [("part", 1)]) (g := (gName 1)) rfl scN_wires.nd (pi_list (pe_fld (pv 0) rfl)) (blkOk_by (own := [("part", 1)]) (N := ["self", "part"]) (sc := defScope sN_wires) (by decide +kernel)) (fun _ _ _ _ _ => (pg_name (i := 1) scN_wires.nd rfl (Or.inl rfl) (Or.inr rfl))) (fun _ _ _ _ _ => pts_nil) (fun _ _ _ _ _ => (pe_ix (ixT (K := K) rfl) (pv 1) pe_int (fun _ _ => rfl)))))), ?_⟩
  refine ⟨_, rfl, a, C, dx, fs, _, rfl, ha, C'.cl, C'.m, hf, p, rfl, ⟨_, SqL.of pa.at_⟩, fun l hl => ?_⟩
  refine lc_list (xs := us) (fun i H2 => Same H H2 ∧ H2 l = some (.lst ((wiresP (ps.take i)).map V.str))) ⟨same_upd hl _, upd_same⟩ (fun i H2 _ h => SqL.of (h.1 _ _ pa.at_)) (fun i x H2 hx ⟨s2, hl2⟩ => ?_) (fun H2 ⟨s2, hl2⟩ => ?_)
  · obtain ⟨pp, hp, pt, _⟩ := (pa.same s2).nth hx
    obtain ⟨b, r, rfl, hb⟩ := pt.two
    have hi := (List.getElem?_eq_some_iff.mp hp).1
    refine ⟨rfl, _, rfl, b, _, 1, _, rfl, rfl, SqT.of hb, atI_nat (j := 1) rfl, _, hl2, ?_, fun c oc hc => ?_, ?_⟩
    · rw [List.length_map, List.length_map]
      exact small1000 (Nat.le_trans (List.length_take_le _ _) (by omega))
    · rw [upd_ne (ne_of_none hc hl)]
      exact s2 _ _ hc
    · rw [upd_same, List.take_add_one, hp]
      simp
  · rw [pa.all.1, List.take_length] at hl2
    exact q l H2 s2 hl hl2
def sourcesP (ps : List Pt) : List Str := (ps.filter fun p => decide (kindP p = "source")).map Pw
theorem scN_sources : FnScope ["self", "part"] ["self"] (defScope sN_sources) := ⟨rfl, rfl, rfl, by decide +kernel, rfl, by decide +kernel, by decide +kernel⟩
theorem ok_n_sources {f C : Addr} {fd : FuncData} (F : Fun K "sources" "Net.sources" sN_sources f fd) (C' : NetC K C) : FnOk P w K mg base CX0 1 f fd ["self"] (spStrOf C "_parts" sourcesP) := by
  refine F.ok scN_sources (fun vs H Q E h => ?_) (fun cdv A outer s H vs Q E hr h => ?_)
  · obtain ⟨a, dx, p, fs, us, ps, rfl, _⟩ := h
    rfl
  obtain ⟨a, dx, p, fs, us, ps, rfl, ha, hf, pa, q⟩ := h
  have pl := pa.l
  refine ⟨_, (pss_one (ps_ret (pe_lc (own := [("part", 1)]) (g := (gName 1)) rfl scN_sources.nd (pi_list (pe_fld (pv 0) rfl)) (blkOk_by (own := [("part", 1)]) (N := ["self", "part"]) (sc := defScope sN_sources) (by decide +kernel)) (fun _ _ _ _ _ => (pg_name (i := 1) scN_sources.nd rfl (Or.inl rfl) (Or.inr rfl))) (fun _ _ _ _ _ => (pts_one (pt_cmpR op_eq (pe_ix (ixT (K := K) rfl) (pv 1) pe_int (fun _ _ => rfl)) pe_str (nomark _)))) (fun _ _ _ _ _ => (pe_ix (ixT (K := K) rfl) (pv 1) pe_int (fun _ _ => rfl)))))), ?_⟩
  refine ⟨_, rfl, a, C, dx, fs, _, rfl, ha, C'.cl, C'.p, hf, p, rfl, ⟨_, SqL.of pa.at_⟩, fun l hl => ?_⟩
  refine lc_list (xs := us) (fun i H2 => Same H H2 ∧ H2 l = some (.lst ((sourcesP (ps.take i)).map V.str))) ⟨same_upd hl _, upd_same⟩ (fun i H2 _ h => SqL.of (h.1 _ _ pa.at_)) (fun i x H2 hx ⟨s2, hl2⟩ => ?_) (fun H2 ⟨s2, hl2⟩ => ?_)
  · obtain ⟨pp, hp, pt, _⟩ := (pa.same s2).nth hx
    obtain ⟨b, r, rfl, hb⟩ := pt.two
    have hi := (List.getElem?_eq_some_iff.mp hp).1
    have e : ps.take (i + 1) = ps.take i ++ [pp] := by rw [List.take_add_one, hp]; rfl
    refine ⟨rfl, _, rfl, b, _, 0, _, rfl, rfl, SqT.of hb, atI_nat (j := 0) rfl, rfl, _, rfl, ?_⟩
    by_cases hk : kindP pp = "source"
    · rw [decide_eq_true (by rw [hk])]
      refine iteT ⟨_, rfl, b, _, 1, _, rfl, rfl, SqT.of hb, atI_nat (j := 1) rfl, _, hl2, ?_, fun c oc hc => ?_, ?_⟩
      · unfold sourcesP
        rw [List.length_map, List.length_map]
        exact small1000 (Nat.le_trans (Nat.le_trans (List.length_filter_le _ _) (List.length_take_le _ _)) (by omega))
      · rw [upd_ne (ne_of_none hc hl)]
        exact s2 _ _ hc
      · rw [upd_same, e]
        unfold sourcesP
        rw [List.filter_append, List.filter_cons_of_pos (by simpa using hk), List.map_append, List.map_append]
        rfl
    · rw [decide_eq_false (fun z => hk (V.str.inj z))]
      refine iteF ⟨s2, ?_⟩
      rw [hl2, e]
      unfold sourcesP
      rw [List.filter_append, List.filter_cons_of_neg (by simpa using hk)]
      simp
  · rw [pa.all.1, List.take_length] at hl2
    exact q l H2 s2 hl hl2
theorem scN_boxes : FnScope ["self"] ["self"] (defScope sN_boxes) := ⟨rfl, rfl, rfl, by decide +kernel, rfl, by decide +kernel, by decide +kernel⟩
theorem ok_n_boxes {f C fb : Addr} {fd db : FuncData} (F : Fun K "boxes" "Net.boxes" sN_boxes f fd) (C' : NetC K C) (GB : Df P w K mg base 1 fb db "boxes_in" ["plain"] spBoxesIn) : FnOk P w K mg base CX0 2 f fd ["self"] (spBoxesM C) := by
  refine F.ok scN_boxes (fun vs H Q E h => ?_) (fun cdv A outer s H vs Q E hr h => ?_)
  · obtain ⟨a, dx, p, fs, us, ps, rfl, _⟩ := h
    rfl
  obtain ⟨a, dx, p, fs, us, ps, rfl, ha, hf, pa, q⟩ := h
  refine ⟨_, (pss_one (ps_ret (pe_call GB.ok (hr.mono (by decide)) (by rfl) GB.m GB.kp GB.b .nil pass0 (pa_cons (pe_fld (pv 0) rfl) pa_nil)))), ?_⟩
  exact ⟨_, rfl, a, C, dx, fs, _, rfl, ha, C'.cl, C'.m, hf, p, us, ps, rfl, pa, q⟩
end
end Un
namespace Un
open PySem L2 TL
section
variable {P : Program} {w : World} {K : PySem.W.Frag} {mg : Str → Option Value} {base : Heap}
/-! ### a net is made -/
/-- a dict comprehension over a list that stays -/
theorem dc_lst {K : PySem.W.Frag} {a : Addr} {xs : List V} {g : TG} {tt : TT} {tk tv : TE} {vs : List Nat} {σ : L2.St} {H1 : Hp} {D : Addr} {Qd : Hp → Prop} (Pv : Nat → Hp → Prop) (h0 : Pv 0 (upd H1 D (.dK []))) (hl : ∀ i H, i ≤ xs.length → Pv i H → SqL K H a xs)
    (hs : ∀ i x H, xs[i]? = some x → Pv i H → g x (wipe σ vs) H fun σ2 H2 => wipe σ2 vs = wipe σ vs ∧ tt σ2 H2 fun b H3 =>
      if b = true then tk σ2 H3 fun y H4 => tv σ2 H4 fun z H5 => ∃ kvs k, y = kV k ∧ H5 D = some (.dK kvs) ∧ kvs.length < sizeLine ∧ Pv (i + 1) (upd H5 D (.dK (putK kvs k z))) else Pv (i + 1) H3) (hd : ∀ H, Pv xs.length H → Qd H) :
    ∃ W : Nat → Nat → Hp → Prop, (∃ m, W 0 m (upd H1 D (.dK []))) ∧ ∀ i m H, W i m H →
      ((Itl K a).stop i H ∧ Qd H) ∨ ((Itl K a).go i H ∧ ∃ Nx : Hp → Prop, (∀ H', Nx H' → ∃ m', m' < m ∧ W (i + 1) m' H') ∧ ∀ x H', (Itl K a).yld i H x H' → g x (wipe σ vs) H' fun σ2 H2 => wipe σ2 vs = wipe σ vs ∧ tt σ2 H2 fun b H3 =>
        if b = true then tk σ2 H3 fun y H4 => tv σ2 H4 fun z H5 => ∃ kvs k, y = kV k ∧ H5 D = some (.dK kvs) ∧ kvs.length < sizeLine ∧ Nx (upd H5 D (.dK (putK kvs k z))) else Nx H3) := by
  refine ⟨fun i m H => m = xs.length - i ∧ i ≤ xs.length ∧ Pv i H, ⟨xs.length, by simp, Nat.zero_le _, h0⟩, ?_⟩
  rintro i m H ⟨rfl, hi, p⟩
  have q := hl i H hi p
  by_cases hlt : i < xs.length
  · refine .inr ⟨⟨xs, xs[i], q, by simp [hlt]⟩, Pv (i + 1), fun H' p' => ⟨xs.length - (i + 1), by omega, rfl, hlt, p'⟩, fun x H' y => ?_⟩
    obtain ⟨e, y⟩ := y
    subst e
    exact hs i x _ (y xs q) p
  · have e : i = xs.length := by omega
    subst e
    exact .inl ⟨⟨xs, q, Nat.le_refl _⟩, hd H p⟩
def graphP (ps : List Pt) : List (Str × List Str) := ps.map fun p => (Pw p, leadsP p)
theorem graphP_keys (ps : List Pt) : (graphP ps).map (·.1) = wiresP ps := by
  unfold graphP
  rw [List.map_map]
  rfl
structure NetOk (ps : List Pt) (os : List Str) : Prop where
  ok : ∀ p ∈ ps, PlP p
  l : ps.length ≤ 16
  nd : (wiresP ps).Nodup
  known : ∀ p ∈ ps, ∀ e ∈ endsP p, e ∈ wiresP ps
  oso : OsOk os
  outs : ∀ z ∈ os, z ∈ wiresP ps
  src : (sourcesP ps).length ≤ 4
  box : (boxesP ps).length ≤ 8
  ag : Agree (boxesP ps)
  ring : ∀ z, ¬ Rch (graphP ps) z z
theorem NetOk.gok {ps : List Pt} {os : List Str} (h : NetOk ps os) : GOk (graphP ps) := by
  refine ⟨by rw [graphP_keys]; exact h.nd, fun z ls hz => ?_, by unfold graphP; rw [List.length_map]; have := h.l; omega⟩
  obtain ⟨p, hp, e⟩ := List.mem_map.mp (lkp_mem hz)
  cases e
  refine ⟨leads_len (h.ok p hp).sm, fun y hy => ?_⟩
  rw [graphP_keys]
  exact h.known p hp y (leads_sub y hy)
theorem entries_none {H : Hp} : ∀ {kvs : List (Key × V)} {G : List (Str × List Str)} {z : Str}, All2 (EntryAt H) kvs G → z ∉ G.map (·.1) → valV kvs (Sum.inr z) = none
  | [], _, z, _, _ => rfl
  | kv :: kvs, [], z, a, _ => by cases a.1
  | kv :: kvs, g :: G, z, a, h => by
    have h0 := a.2 0 kv g rfl rfl
    rw [valV_neg (by rw [h0.1]; exact fun e => h (List.mem_map.mpr ⟨g, List.mem_cons_self, Sum.inr.inj e⟩))]
    exact entries_none a.tail.2 fun m => h (by
      obtain ⟨x, hx, e⟩ := List.mem_map.mp m
      exact List.mem_map.mpr ⟨x, List.mem_cons_of_mem _ hx, e⟩)
abbrev netFs (p o d m : Addr) : List (Str × V) := [("_parts", .ref p), ("_outs", .ref o), ("_pieces", .ref d), ("_plain", .ref m)]
/-- a net with no uses stands at a -/
structure NetAt (H : Hp) (C a : Addr) (us : List V) (ps : List Pt) (os : List Str) : Prop where
  ex : ∃ dx p o d m, H a = some (.ins C dx (netFs p o d m)) ∧ H p = some (.lst us) ∧ H o = some (.lst (os.map V.str)) ∧ H d = some (.dK []) ∧ H m = some (.lst us)
  all : All2 (PtAt H) us ps
  ok : NetOk ps os
def spNetI (C : Addr) : Sp := fun vs H Q _ => ∃ (a dx px py : Addr) (us : List V) (ps : List Pt) (os : List Str), vs = [.ref a, .ref px, .ref py, .non] ∧ H a = some (.ins C dx []) ∧ (H px = some (.lst us) ∨ H px = some (.tup us)) ∧ All2 (PtAt H) us ps ∧ (H py = some (.lst (os.map V.str)) ∨ H py = some (.tup (os.map V.str))) ∧ NetOk ps os ∧
  ∀ H', Kp a H H' → NetAt H' C a us ps os → Q .non H'
structure NiTxt (mg : Str → Option Value) : Prop where
  list : mg "list" = none
  dict : mg "dict" = none
  len : mg "len" = none
  src : ∃ t, mg "MOST_SOURCES" = some (.int 4 t)
  wir : ∃ t, mg "MOST_WIRES" = some (.int 24 t)
abbrev netPs : List Str := ["self", "parts", "outs", "pieces"]
theorem scN_init : FnScope ["self", "parts", "outs", "pieces", "at", "part", "place"] ["self", "parts", "outs", "pieces"] (defScope sN_init) := ⟨rfl, rfl, rfl, by decide +kernel, rfl, by decide +kernel, by decide +kernel⟩
theorem kp_old {a : Addr} {H H' : Hp} (k : Kp a H H') {b : Addr} {o : HO} (h : H b = some o) (n : b ≠ a) : H' b = some o := k b o h n
theorem ok_n_init {f C fp fo fw fu ff fk fr fl fs fb : Addr} {fd dp d_o dw du df dk dr dl ds db : FuncData} {dvs : List V} {kws : List (Str × V)} (F : FunD K "__init__" "Net.__init__" (defArgs sN_init) (defBody sN_init) (defScope sN_init) dvs kws f fd) (C' : NetC K C) (T : NetTxt K w mg) (N : NiTxt mg)
    (GP : Df P w K mg base 5 fp dp "is_part" ["value"] spIsPart) (GO : Df P w K mg base 2 fo d_o "check_outs" ["outs"] spCkOuts) (GW : Df P w K mg base 2 fw dw "check_wires" ["parts", "outs"] spCkWires) (GU : Df P w K mg base 1 fu du "check_uses" ["parts", "pieces"] spCkUses)
    (GF : Df P w K mg base 1 ff df "plain_of" ["parts", "pieces"] spPlainOf) (GK : Df P w K mg base 1 fk dk "check_kinds" ["boxes"] spCkKinds) (GR : Df P w K mg base 2 fr dr "first_on_ring" ["leads"] spFirst) (GL : Df P w K mg base 2 fl dl "leads_of" ["part"] (spStrs leadsP))
    (MS : Mt P w K mg base C 1 fs ds "sources" ["self"] (spStrOf C "_parts" sourcesP)) (MB : Mt P w K mg base C 2 fb db "boxes" ["self"] (spBoxesM C)) :
    FnOk P w K mg base CX0 6 f fd netPs (spNetI C) := by
  refine F.ok scN_init (fun vs H Q E h => ?_) (fun cdv A outer s H vs Q E hr h => ?_)
  · obtain ⟨a, dx, px, py, us, ps, os, rfl, _⟩ := h
    rfl
  obtain ⟨a, dx, px, py, us, ps, os, rfl, ha, hpx, hA, hpy, nk, q⟩ := h
  obtain ⟨ts, msrc⟩ := N.src
  obtain ⟨tw, mwir⟩ := N.wir
  obtain ⟨um, hmost⟩ := C'.most
  obtain ⟨ub, hbox⟩ := C'.boxes
  have npx : px ≠ a := by rcases hpx with h | h <;> exact ne_of h ha (by intro z; cases z)
  have npy : py ≠ a := by rcases hpy with h | h <;> exact ne_of h ha (by intro z; cases z)
  refine ⟨_, PSs.nox (pss_cons (ps_fld (pv 0) (pe_callTy call_list_of (by rfl) N.list (by decide +kernel) (pa_cons (pv 1) pa_nil)) rfl)
 (pss_cons (ps_fld (pv 0) (pe_callTy call_list_of (by rfl) N.list (by decide +kernel) (pa_cons (pv 2) pa_nil)) rfl)
 (pss_cons (ps_fld (pv 0) (pe_ifExp (pt_cmpR op_isN (pv 3) pe_non (nomark _)) pe_dnewK (pe_callTy call_dictD (by rfl) N.dict (by decide +kernel) (pa_cons (pv 3) pa_nil))) rfl)
 (pss_cons (ps_for PassesOwn.never rfl (pi_enum (by rfl) T.enum (pa_cons (pe_fld (pv 0) rfl) pa_nil)) (pg_tup (by rfl) (pgs_cons (pg_name (i := 4) scN_init.nd rfl (by first | exact Or.inl rfl | exact Or.inr rfl)) (pgs_cons (pg_name (i := 5) scN_init.nd rfl (by first | exact Or.inl rfl | exact Or.inr rfl)) pgs_nil)))
 (pss_one (ps_if (pt_not (pt_val (pe_call GP.ok (hr.mono (by decide)) (by rfl) GP.m GP.kp GP.b .nil pass0 (pa_cons (pv 5) pa_nil))))
 pss_never
 pss_nil)))
 (pss_cons (ps_if (pt_cmpR op_gt (pe_callB call_len_seq (by rfl) N.len PySem.boot_len (pa_cons (pe_fld (pv 0) rfl) pa_nil)) (pe_con (pv 0) rfl) (nomark _))
 pss_never
 pss_nil)
 (pss_cons (ps_expr (pe_call GO.ok (hr.mono (by decide)) (by rfl) GO.m GO.kp GO.b .nil pass0 (pa_cons (pe_fld (pv 0) rfl) pa_nil)))
 (pss_cons (ps_expr (pe_call GW.ok (hr.mono (by decide)) (by rfl) GW.m GW.kp GW.b .nil pass0 (pa_cons (pe_fld (pv 0) rfl) (pa_cons (pe_fld (pv 0) rfl) pa_nil))))
 (pss_cons (ps_if (pt_cmpR op_gt (pe_callB call_len_seq (by rfl) N.len PySem.boot_len (pa_cons (pe_meth0 (pv 0) C'.cl MS.mt MS.ok (hr.mono (by decide)) MS.b .nil pass0) pa_nil)) (pe_glob (v := .int 4) (by rfl) msrc ⟨_, rfl⟩) (nomark _))
 pss_never
 pss_nil)
 (pss_cons (ps_expr (pe_call GU.ok (hr.mono (by decide)) (by rfl) GU.m GU.kp GU.b .nil pass0 (pa_cons (pe_fld (pv 0) rfl) (pa_cons (pe_fld (pv 0) rfl) pa_nil))))
 (pss_cons (ps_fld (pv 0) (pe_call GF.ok (hr.mono (by decide)) (by rfl) GF.m GF.kp GF.b .nil pass0 (pa_cons (pe_fld (pv 0) rfl) (pa_cons (pe_fld (pv 0) rfl) pa_nil))) rfl)
 (pss_cons (ps_if (pt_cmpR op_gt (pe_callB call_len_seq (by rfl) N.len PySem.boot_len (pa_cons (pe_fld (pv 0) rfl) pa_nil)) (pe_glob (v := .int 24) (by rfl) mwir ⟨_, rfl⟩) (nomark _))
 pss_never
 pss_nil)
 (pss_cons (ps_if (pt_cmpR op_gt (pe_callB call_len_seq (by rfl) N.len PySem.boot_len (pa_cons (pe_meth0 (pv 0) C'.cl MB.mt MB.ok (hr.mono (by decide)) MB.b .nil pass0) pa_nil)) (pe_con (pv 0) rfl) (nomark _))
 pss_never
 pss_nil)
 (pss_cons (ps_expr (pe_call GK.ok (hr.mono (by decide)) (by rfl) GK.m GK.kp GK.b .nil pass0 (pa_cons (pe_meth0 (pv 0) C'.cl MB.mt MB.ok (hr.mono (by decide)) MB.b .nil pass0) pa_nil)))
 (pss_cons (ps_set (i := 6) scN_init.nd rfl (by first | exact Or.inl rfl | exact Or.inr rfl) (pe_call GR.ok (hr.mono (by decide)) (by rfl) GR.m GR.kp GR.b .nil pass0 (pa_cons (pe_dc (own := [("part", 5)]) (g := (gName 5)) rfl scN_init.nd (pi_list (pe_fld (pv 0) rfl)) (blkOk_by (own := [("part", 5)]) (N := ["self", "parts", "outs", "pieces", "at", "part", "place"]) (sc := defScope sN_init) (by decide +kernel)) (fun _ _ _ _ _ => (pg_name (i := 5) scN_init.nd rfl (Or.inl rfl) (Or.inr rfl))) (fun _ _ _ _ _ => pts_nil) (fun _ _ _ _ _ => (pe_ix (ixT (K := K) rfl) (pv 5) pe_int (fun _ _ => rfl))) (fun _ _ _ _ _ => (pe_call GL.ok (hr.mono (by decide)) (by rfl) GL.m GL.kp GL.b .nil pass0 (pa_cons (pv 5) pa_nil)))) pa_nil)))
 (pss_one (ps_if (pt_cmpR op_notN (pv 6) pe_non (nomark _))
 pss_never
 pss_nil)))))))))))))))), ?_⟩
  -- the fields
  refine ⟨_, rfl, px, us, rfl, hpx.elim (fun h => .inl (SqL.of h)) (fun h => .inr (SqT.of h)), fun p hp => ?_⟩
  have nap : a ≠ p := ne_of_none ha hp
  refine ⟨_, rfl, a, C, dx, [], rfl, by rw [upd_ne nap]; exact ha, C'.cl, C'.p, (by show (0 : Nat) < 1000; decide), ?_⟩
  generalize hH1 : upd (upd H p (.lst us)) a (.ins C dx (putF "_parts" (.ref p) [])) = H1
  have k1 : Kp a H H1 := fun b ob hb n => by
    rw [← hH1, upd_ne n, upd_ne (ne_of_none hb hp)]
    exact hb
  have a1 : H1 a = some (.ins C dx [("_parts", .ref p)]) := by rw [← hH1]; exact upd_same
  have p1 : H1 p = some (.lst us) := by rw [← hH1, upd_ne nap.symm]; exact upd_same
  have hpy1 : H1 py = some (.lst (os.map V.str)) ∨ H1 py = some (.tup (os.map V.str)) := hpy.elim (fun h => .inl (k1 _ _ h npy)) (fun h => .inr (k1 _ _ h npy))
  refine ⟨_, rfl, py, os.map V.str, rfl, hpy1.elim (fun h => .inl (SqL.of h)) (fun h => .inr (SqT.of h)), fun o ho => ?_⟩
  have nao : a ≠ o := ne_of_none a1 ho
  have npo : p ≠ o := ne_of_none p1 ho
  refine ⟨_, rfl, a, C, dx, _, rfl, by rw [upd_ne nao]; exact a1, C'.cl, C'.o, (by show (1 : Nat) < 1000; decide), ?_⟩
  generalize hH2 : upd (upd H1 o (.lst (os.map V.str))) a (.ins C dx (putF "_outs" (.ref o) [("_parts", .ref p)])) = H2
  have k2 : Kp a H1 H2 := fun b ob hb n => by
    rw [← hH2, upd_ne n, upd_ne (ne_of_none hb ho)]
    exact hb
  have a2 : H2 a = some (.ins C dx [("_parts", .ref p), ("_outs", .ref o)]) := by rw [← hH2]; exact upd_same
  have p2 : H2 p = some (.lst us) := k2 _ _ p1 nap.symm
  have o2 : H2 o = some (.lst (os.map V.str)) := by rw [← hH2, upd_ne nao.symm]; exact upd_same
  refine ⟨_, rfl, rfl, _, rfl, iteT ?_⟩
  intro d hd
  have nad : a ≠ d := ne_of_none a2 hd
  refine ⟨_, rfl, a, C, dx, _, rfl, by rw [upd_ne nad]; exact a2, C'.cl, C'.d, (by show (2 : Nat) < 1000; decide), ?_⟩
  generalize hH3 : upd (upd H2 d (.dK [])) a (.ins C dx (putF "_pieces" (.ref d) [("_parts", .ref p), ("_outs", .ref o)])) = H3
  have k3 : Kp a H2 H3 := fun b ob hb n => by
    rw [← hH3, upd_ne n, upd_ne (ne_of_none hb hd)]
    exact hb
  have a3 : H3 a = some (.ins C dx [("_parts", .ref p), ("_outs", .ref o), ("_pieces", .ref d)]) := by rw [← hH3]; exact upd_same
  have p3 : H3 p = some (.lst us) := k3 _ _ p2 nap.symm
  have o3 : H3 o = some (.lst (os.map V.str)) := k3 _ _ o2 nao.symm
  have d3 : H3 d = some (.dK []) := by rw [← hH3, upd_ne nad.symm]; exact upd_same
  have k03 : Kp a H H3 := (k1.trans k2).trans k3
  have A3 : All2 (PtAt H3) us ps := hA.mono fun _ _ z => z.tups fun b xs hb => k03 _ _ hb (ne_of hb ha (by intro z; cases z))
  have pl := nk.l
  have pa3 : PsAt H3 p us ps := ⟨p3, A3, nk.ok, by omega⟩
  -- the parts, one by one
  refine ⟨_, rfl, a, C, dx, _, _, rfl, a3, C'.cl, C'.p, rfl, p, us, rfl, SqL.of p3, ?_⟩
  refine for_it walk_enum (fun i σ H4 => (∃ v4 v5 v6, σ = [some (.ref a), some (.ref px), some (.ref py), some .non, v4, v5, v6]) ∧ Same H3 H4) ⟨⟨_, _, _, rfl⟩, Same.refl _⟩ (fun i σ H4 _ h => SqL.of (h.2 _ _ p3)) ?_ ?_
  · rintro i v σ H4 H5 hi ⟨⟨v4, v5, v6, rfl⟩, s4⟩ ⟨t, x, y, rfl, ht, rfl, hx, hy⟩
    cases hx
    have hy : us[i]? = some y := hy
    have s5 := s4.trans (same_upd ht (.tup [.int i, y]))
    obtain ⟨pp, hp', pt, pl'⟩ := (pa3.same s5).nth hy
    refine ⟨t, _, rfl, SqT.of upd_same, rfl, _, _, rfl, _, _, rfl, rfl, ?_⟩
    refine ⟨_, rfl, y, pp, rfl, pt, pl'.ok, pl'.sm, pl'.nu, fun H6 s6 => ?_⟩
    exact ⟨_, rfl, iteF ⟨⟨_, _, _, rfl⟩, s5.trans s6⟩⟩
  rintro σ H4 ⟨⟨v4, v5, v6, rfl⟩, s4⟩
  have ln : us.length = ps.length := A3.1
  refine ⟨_, rfl, a, C, dx, _, _, rfl, s4 _ _ a3, C'.cl, C'.p, rfl, p, us, rfl, .inl (SqL.of (s4 _ _ p3)), _, rfl, a, C, dx, _, _, um, rfl, s4 _ _ a3, C'.cl, hmost, rfl, _, 16, rfl, rfl, _, rfl, ?_⟩
  rw [show decide (((us.length : Nat) : Int) > 16) = false from decide_eq_false (by omega)]
  refine iteF ?_
  refine ⟨_, rfl, a, C, dx, _, _, rfl, s4 _ _ a3, C'.cl, C'.o, rfl, o, os, rfl, s4 _ _ o3, nk.oso, fun H5 s5' => ?_⟩
  have s5 := s4.trans s5'
  refine ⟨_, rfl, a, C, dx, _, _, rfl, s5 _ _ a3, C'.cl, C'.p, rfl, _, rfl, a, C, dx, _, _, rfl, s5 _ _ a3, C'.cl, C'.o, rfl, p, o, us, ps, os, rfl, pa3.same s5, s5 _ _ o3, nk.nd, nk.known, nk.outs, fun H6 s6' => ?_⟩
  have s6 := s5.trans s6'
  refine ⟨_, rfl, a, dx, _, rfl, s6 _ _ a3, rfl, a, dx, p, _, us, ps, rfl, s6 _ _ a3, rfl, pa3.same s6, fun l H7 s7' hl hl7 => ?_⟩
  have s7 := s6.trans s7'
  refine ⟨l, _, rfl, .inl (SqL.of hl7), _, _, rfl, rfl, _, rfl, ?_⟩
  rw [show decide (((((sourcesP ps).map V.str).length : Nat) : Int) > 4) = false from decide_eq_false (by rw [List.length_map]; have := nk.src; omega)]
  refine iteF ?_
  refine ⟨_, rfl, a, C, dx, _, _, rfl, s7 _ _ a3, C'.cl, C'.p, rfl, _, rfl, a, C, dx, _, _, rfl, s7 _ _ a3, C'.cl, C'.d, rfl, p, us, ps, .ref d, rfl, pa3.same s7, fun H8 s8' => ?_⟩
  have s8 := s7.trans s8'
  refine ⟨_, rfl, a, C, dx, _, _, rfl, s8 _ _ a3, C'.cl, C'.p, rfl, _, rfl, a, C, dx, _, _, rfl, s8 _ _ a3, C'.cl, C'.d, rfl, p, us, ps, .ref d, rfl, pa3.same s8, fun m H9 s9' hm hm9 => ?_⟩
  have s9 := s8.trans s9'
  have nam : a ≠ m := ne_of_none (s8 _ _ a3) hm
  refine ⟨_, rfl, a, C, dx, _, rfl, s9 _ _ a3, C'.cl, C'.m, (by show (3 : Nat) < 1000; decide), ?_⟩
  generalize hH10 : upd H9 a (.ins C dx (putF "_plain" (.ref m) [("_parts", .ref p), ("_outs", .ref o), ("_pieces", .ref d)])) = H10
  have k10 : Kp a H9 H10 := fun b ob hb n => by
    rw [← hH10, upd_ne n]
    exact hb
  have a10 : H10 a = some (.ins C dx (netFs p o d m)) := by rw [← hH10]; exact upd_same
  have p10 : H10 p = some (.lst us) := k10 _ _ (s9 _ _ p3) nap.symm
  have o10 : H10 o = some (.lst (os.map V.str)) := k10 _ _ (s9 _ _ o3) nao.symm
  have d10 : H10 d = some (.dK []) := k10 _ _ (s9 _ _ d3) nad.symm
  have m10 : H10 m = some (.lst us) := k10 _ _ hm9 nam.symm
  have A10 : All2 (PtAt H10) us ps := (A3.mono fun _ _ z => z.tups (Same.tups s9)).mono fun _ _ z => z.tups fun b xs hb => k10 _ _ hb (ne_of hb (s9 _ _ a3) (by intro z; cases z))
  have pam : PsAt H10 m us ps := ⟨m10, A10, nk.ok, by omega⟩
  have k010 : Kp a H H10 := (k03.trans (Same.kp s9)).trans k10
  -- the plain net
  refine ⟨_, rfl, a, C, dx, _, _, rfl, a10, C'.cl, C'.m, rfl, m, us, rfl, .inl (SqL.of m10), _, _, rfl, rfl, _, rfl, ?_⟩
  rw [show decide (((us.length : Nat) : Int) > 24) = false from decide_eq_false (by omega)]
  refine iteF ?_
  refine ⟨_, rfl, a, dx, _, rfl, a10, rfl, a, dx, m, _, us, ps, rfl, a10, rfl, pam, fun l2 bs H11 s11 hl2 hl11 hb11 => ?_⟩
  refine ⟨l2, _, rfl, .inl (SqL.of hl11), _, rfl, a, C, dx, _, _, ub, rfl, s11 _ _ a10, C'.cl, hbox, rfl, _, 8, rfl, rfl, _, rfl, ?_⟩
  rw [show decide (((bs.length : Nat) : Int) > 8) = false from decide_eq_false (by rw [hb11.1]; have := nk.box; omega)]
  refine iteF ?_
  refine ⟨_, rfl, a, dx, _, rfl, s11 _ _ a10, rfl, a, dx, m, _, us, ps, rfl, s11 _ _ a10, rfl, pam.same s11, fun l3 bs3 H12 s12' hl3 hl12 hb12 => ?_⟩
  have s12 := s11.trans s12'
  refine ⟨l3, bs3, boxesP ps, rfl, hl12, hb12, by have := nk.box; omega, nk.ag, fun H13 s13' => ?_⟩
  have s13 := s12.trans s13'
  -- no ring
  refine ⟨_, rfl, a, C, dx, _, _, rfl, s13 _ _ a10, C'.cl, C'.m, rfl, m, rfl, ⟨_, SqL.of (s13 _ _ m10)⟩, fun D hD => ?_⟩
  refine dc_lst (xs := us) (fun i H2 => Same H13 H2 ∧ ∃ kvs, H2 D = some (.dK kvs) ∧ All2 (EntryAt H2) kvs (graphP (ps.take i))) ⟨same_upd hD _, [], upd_same, rfl, fun i u v hu => by cases hu⟩ (fun i H2 _ h => SqL.of (h.1 _ _ (s13 _ _ m10))) (fun i x H2 hx ⟨s2, kvs, hD2, hG2⟩ => ?_) (fun H2 ⟨s2, kvs, hD2, hG2⟩ => ?_)
  · obtain ⟨pp, hpp, pt, pok⟩ := (pam.same (s13.trans s2)).nth hx
    obtain ⟨b, r, rfl, hb⟩ := pt.two
    have hi := (List.getElem?_eq_some_iff.mp hpp).1
    have tk : ps.take (i + 1) = ps.take i ++ [pp] := by rw [List.take_add_one, hpp]; rfl
    refine ⟨rfl, _, rfl, b, _, 1, _, rfl, rfl, SqT.of hb, atI_nat (j := 1) rfl, _, rfl, .ref b, pp, rfl, pt, pok.ok, pok.sm, pok.nu, fun l4 H4 s4 hl4 hl44 => ?_⟩
    have hw : (wiresP ps)[i]? = some (Pw pp) := by rw [List.getElem?_map, hpp]; rfl
    have hn : Pw pp ∉ (graphP (ps.take i)).map (·.1) := by
      rw [graphP_keys]
      have := nd_take nk.nd hw
      rw [← List.map_take] at this
      exact this
    have G4 : All2 (EntryAt H4) kvs (graphP (ps.take i)) := hG2.mono fun _ _ z => z.same s4
    refine ⟨kvs, Sum.inr (Pw pp), rfl, s4 _ _ hD2, ?_, fun c oc hc => ?_, kvs ++ [(Sum.inr (Pw pp), .ref l4)], ?_, ?_⟩
    · rw [hG2.1]
      unfold graphP
      rw [List.length_map]
      exact small1000 (Nat.le_trans (List.length_take_le _ _) (by omega))
    · rw [upd_ne (ne_of_none hc hD)]
      exact s4 _ _ (s2 _ _ hc)
    · rw [upd_same, putK_new _ (entries_none G4 hn)]
    · have nD : ∀ {e : Addr} {xs : List V}, H4 e = some (.lst xs) → e ≠ D := fun he => ne_of he (s4 _ _ hD2) (by intro z; cases z)
      rw [tk]
      unfold graphP
      rw [List.map_append]
      refine All2.snoc (G4.mono fun kv g z => ?_) ⟨rfl, l4, rfl, by rw [upd_ne (nD hl44)]; exact hl44⟩
      obtain ⟨e1, l, e2, hl⟩ := z
      exact ⟨e1, l, e2, by rw [upd_ne (nD hl)]; exact hl⟩
  rw [A10.1, List.take_length] at hG2
  refine ⟨D, kvs, graphP ps, rfl, hD2, hG2, nk.gok, fun v H14 s14 fst => ?_⟩
  have hv : v = .non := by
    rcases fst with ⟨e, _⟩ | ⟨i, z, hz, r, _⟩
    · exact e
    · exact absurd r (nk.ring z)
  subst hv
  have s15 := (s13.trans s2).trans s14
  refine ⟨_, rfl, rfl, _, rfl, iteF ?_⟩
  exact q H14 (k010.trans (Same.kp s15)) ⟨⟨dx, p, o, d, m, s15 _ _ a10, s15 _ _ p10, s15 _ _ o10, s15 _ _ d10, s15 _ _ m10⟩, A10.mono fun _ _ z => z.tups (Same.tups s15), nk⟩
end
end Un
namespace Un
open PySem L2 TL
section
variable {P : Program} {w : World} {K : PySem.W.Frag} {mg : Str → Option Value} {base : Heap}
/-! ### the drawn parts, more closely -/
/-- what one drawn part that is no source holds -/
structure FromP (es ws : List Str) (fs : List (Str × Str)) (p : Pt) : Prop where
  ends : ∀ z ∈ endsP p, z ∈ es ∨ z ∈ ws
  leads : ∀ z ∈ leadsP p, z ∈ es
  box : ∀ x ∈ boxP p, (x.2.1, x.2.2) ∈ fs ∧ es ≠ []
  nu : notUse p
  ns : ¬ kindP p = "source"
theorem any_mem {H : Hp} {b c u : Addr} {us : List Str} {Q : VK} (B : Bag H b c) (hu : NmL H b u us) (h0 : 0 < us.length) (q : ∀ (a : Str) (H' : Hp), IsNm a ∧ a ∈ us → Bag H' b c → Kp b H H' → Q (.str a) H') : spAny K [.ref b, .ref u] H Q E0 :=
  ⟨b, c, .ref u, us.map V.str, rfl, B, hu.menu, by rw [List.length_map]; exact h0, by rw [List.length_map]; have := hu.l; omega, fun y H4 hy B4 k4 => by
    obtain ⟨a, ha, rfl⟩ := List.mem_map.mp hy
    exact q a H4 ⟨hu.nm a ha, ha⟩ B4 k4⟩
def SmT2 (es ws : List Str) (t : Tm) : Prop := (SmT t ∧ IsNm t.a) ∧ (t.a ∈ es ∨ t.a ∈ ws) ∧ (t.d = 0 → t.a ∈ es)
def spTerm2 : Sp := fun vs H Q _ => ∃ (b c e v : Addr) (es ws : List Str), vs = [.ref b, .ref e, .ref v] ∧ Bag H b c ∧ NmL H b e es ∧ NmL H b v ws ∧ 0 < ws.length ∧
  ∀ (x : V) (t : Tm) (H' : Hp), TmAt H' x t → SmT2 es ws t → Bag H' b c → Kp b H H' → Q x H'
theorem ok_term2 {f g ga : Addr} {fd gd ad : FuncData} (F : Fun K "_law_term" "_law_term" sTerm f fd) (G : Df P w K mg base 1 g gd "_law_pull" ["_law_bag_here", "_law_many"] spPull) (GA : Df P w K mg base 2 ga ad "_law_any" ["_law_bag_here", "_law_things"] (spAny K)) (mmax : mg "max" = none) :
    FnOk P w K mg base CX0 3 f fd ["_law_bag_here", "_law_earlier", "_law_every"] spTerm2 := by
  refine F.ok scTerm (fun vs H Q E h => ?_) (fun cdv A outer s H vs Q E hr h => ?_)
  · obtain ⟨b, c, e, v, es, ws, rfl, _⟩ := h
    rfl
  obtain ⟨b, c, e, v, es, ws, rfl, B, he, hv, h0, q⟩ := h
  have hr1 : Room 1 _ := hr.mono (by decide)
  have hu := hr.units
  refine ⟨_, C8.pss_cut (ps_set (i := 3) scTerm.nd rfl (Or.inl rfl) (pe_ifExp (pt_cmpR op_gt (pe_call G.ok hr1 (by rfl) G.m G.kp G.b .nil pass0 (pa_cons (pv 0) (pa_cons pe_int pa_nil))) pe_int (nomark _))
      (pe_op op_sub (pe_call G.ok hr1 (by rfl) G.m G.kp G.b .nil pass0 (pa_cons (pv 0) (pa_cons pe_int pa_nil))) pe_int)
      (pe_call GA.ok hr (by rfl) GA.m GA.kp GA.b .nil pass0 (pa_cons (pv 0) (pa_cons (pe_lst (pa_cons (pe_un un_neg pe_int) (pa_cons pe_int (pa_cons (pe_un un_neg pe_int) (pa_cons pe_int pa_nil))))) pa_nil)))))
    (pss_cons (ps_set (i := 4) scTerm.nd rfl (Or.inl rfl) (pe_call GA.ok hr (by rfl) GA.m GA.kp GA.b .nil pass0 (pa_cons (pv 0) (pa_cons (pe_lst (pa_cons pe_int (pa_cons pe_int (pa_cons pe_int (pa_cons pe_int (pa_cons pe_int (pa_cons pe_int (pa_cons pe_int (pa_cons pe_int pa_nil))))))))) pa_nil))))
    (pss_cons (ps_if (PW.pt (pw_and (pt_cmpR op_eq (pv 4) pe_int (nomark _)) (pw_and1 (pt_cmpR (op_neD hu) (pv 1) (pe_lst pa_nil) (nomark _)))))
      (pss_one (ps_ret (pe_tup (pa_cons (pv 3) (pa_cons pe_int (pa_cons (pe_call GA.ok hr (by rfl) GA.m GA.kp GA.b .nil pass0 (pa_cons (pv 0) (pa_cons (pv 1) pa_nil))) pa_nil)))))) pss_nil)
    (pss_one (ps_ret (pe_tup (pa_cons (pv 3) (pa_cons (pe_callB (cr_max rfl) (by rfl) mmax (by decide +kernel) (pa_cons (pe_lst (pa_cons (pv 4) (pa_cons pe_int pa_nil))) pa_nil)) (pa_cons (pe_call GA.ok hr (by rfl) GA.m GA.kp GA.b .nil pass0 (pa_cons (pv 0) (pa_cons (pv 2) pa_nil))) pa_nil)))))))), ?_⟩
  refine ⟨fun σ' H1 => ∃ n, σ' = [some (.ref b), some (.ref e), some (.ref v), some (.int n), none] ∧ -99 ≤ n ∧ n ≤ 99 ∧ Bag H1 b c ∧ Kp b H H1, ?_, ?_⟩
  · refine ⟨.ref b, rfl, b, c, 8, rfl, B, by decide, by decide, fun d H1 d0 d1 B1 k1 => ?_⟩
    refine ⟨_, _, rfl, rfl, _, rfl, ?_⟩
    refine ite2 (fun _ => ?_) (fun _ => ?_)
    · refine ⟨.ref b, rfl, b, c, 7, rfl, B1, by decide, by decide, fun d2 H2 e0 e1 B2 k2 => ?_⟩
      refine ⟨_, _, rfl, rfl, ?_⟩
      exact ⟨_, rfl, by omega, by omega, B2, k1.trans k2⟩
    · refine ⟨.ref b, rfl, 99, rfl, 10, rfl, (by show 4 ≤ sizeLine; decide), fun m hm => ?_⟩
      refine ⟨b, c, .ref m, ([-99, 99, -10, 47] : List Int).map V.int, rfl, B1.upd_new hm _, .inl ⟨m, rfl, B1.fresh hm, SqL.of upd_same⟩, by decide, by decide, fun y H2 hy B2 k2 => ?_⟩
      obtain ⟨n, hn, rfl⟩ := List.mem_map.mp hy
      have bd : ∀ n ∈ ([-99, 99, -10, 47] : List Int), -99 ≤ n ∧ n ≤ 99 := by decide
      exact ⟨n, rfl, (bd n hn).1, (bd n hn).2, B2, (k1.new hm _).trans k2⟩
  rintro σ' H1 ⟨n, rfl, n0, n1, B1, k1⟩
  refine ⟨.ref b, rfl, (by show 8 ≤ sizeLine; decide), fun m hm => ?_⟩
  refine ⟨b, c, .ref m, ([0, 0, 0, 1, 1, 2, 3, 4] : List Int).map V.int, rfl, B1.upd_new hm _, .inl ⟨m, rfl, B1.fresh hm, SqL.of upd_same⟩, by decide, by decide, fun y H2 hy B2 k2' => ?_⟩
  obtain ⟨d, hd, rfl⟩ := List.mem_map.mp hy
  have bd : ∀ n ∈ ([0, 0, 0, 1, 1, 2, 3, 4] : List Int), 0 ≤ n ∧ n ≤ 4 := by decide
  obtain ⟨d0, d1⟩ := bd d hd
  have k2 : Kp b H H2 := (k1.new hm _).trans k2'
  -- the last way: (factor, max([delay, 1]), any(bag, every))
  refine ⟨.int d, rfl, rfl, _, rfl, ?_⟩
  have fin : ∀ (H3 : Hp), Bag H3 b c → Kp b H H3 → tRet (tTup (tCons (tVar 3) (tCons (tCB (rMax K) (tCons (tLst (tCons (tVar 4) (tCons (tC (.int 1)) tNil))) tNil)) (tCons (tCall (spAny K) [] E0 (tCons (tVar 0) (tCons (tVar 2) tNil))) tNil))))
      { nx := fun _ H' => Q .non H', rt := Q } [some (.ref b), some (.ref e), some (.ref v), some (.int n), some (.int d)] H3 := fun H3 B3 k3 => by
    refine ⟨_, rfl, _, rfl, (by show 2 ≤ sizeLine; decide), fun m2 hm2 => ⟨m2, [d, 1], rfl, SqL.of upd_same, (by show 0 < 2; decide), fun mx hmx hle => ?_⟩⟩
    have m1 : 1 ≤ mx := hle 1 (List.mem_cons_of_mem _ (List.mem_cons_self ..))
    have m4 : mx ≤ 4 := by
      rcases List.mem_cons.mp hmx with e | hmx
      · omega
      · rw [List.mem_singleton.mp hmx]; decide
    refine ⟨_, rfl, _, rfl, any_mem (B3.upd_new hm2 _) (hv.kp (k3.new hm2 _)) h0 fun a H4 ⟨na, ma⟩ B4 k4 => ?_⟩
    refine ⟨(by show 3 ≤ sizeLine; decide), fun t ht => ?_⟩
    exact q (.ref t) ⟨n, mx, a⟩ _ ⟨t, rfl, upd_same⟩ ⟨⟨⟨n0, n1, by show 0 ≤ mx; omega, m4, by show a.length ≤ 10; have := na.l4; omega⟩, na⟩, .inr ma, fun e => absurd (show mx = 0 from e) (by omega)⟩ (B4.upd_new ht _) (((k3.new hm2 _).trans k4).new ht _)
  refine ite2 (fun c0 => ?_) (fun c0 => ?_)
  · refine ⟨.ref e, rfl, Nat.zero_le _, fun p hp => ?_⟩
    refine ⟨_, _, .lst (SqL.of ((he.kp (k2.new hp _)).at_)) (dpAll_strs es), .lst (SqL.of upd_same) .nil, shaped_strs he.nm, rfl, _, rfl, ?_⟩
    refine ite2 (fun c1 => ?_) (fun c1 => ?_)
    · have es0 : 0 < es.length := by
        cases es with
        | nil => cases c1
        | cons x r => exact Nat.succ_pos _
      refine ⟨_, rfl, _, rfl, _, rfl, any_mem (B2.upd_new hp _) (he.kp (k2.new hp _)) es0 fun a H4 ⟨na, ma⟩ B4 k4 => ?_⟩
      refine ⟨(by show 3 ≤ sizeLine; decide), fun t ht => ?_⟩
      exact q (.ref t) ⟨n, 0, a⟩ _ ⟨t, rfl, upd_same⟩ ⟨⟨⟨n0, n1, by show (0 : Int) ≤ 0; decide, by show (0 : Int) ≤ 4; decide, by show a.length ≤ 10; have := na.l4; omega⟩, na⟩, .inl ma, fun _ => ma⟩ (B4.upd_new ht _) (((k2.new hp _).trans k4).new ht _)
    · exact fin _ (B2.upd_new hp _) (k2.new hp _)
  · exact fin _ B2 k2
theorem kinds_ns {k : Str} (h : k ∈ kinds4) : ¬ k = "source" := by
  simp only [List.mem_cons, List.not_mem_nil, or_false] at h
  rcases h with rfl | rfl | rfl | rfl <;> decide
def spPart2 : Sp := fun vs H Q _ => ∃ (b c e v x : Addr) (wire : Str) (es ws : List Str) (bs : List V) (fs : List (Str × Str)), vs = [.ref b, .str wire, .ref e, .ref v, .ref x] ∧ Bag H b c ∧ IsNm wire ∧ NmL H b e es ∧ NmL H b v ws ∧ 0 < ws.length ∧ BxL H b x bs fs ∧
  ∀ (y : V) (p : Pt) (H' : Hp), PtAt H' y p → SmP p → OkP p → Pw p = wire → FromP es ws fs p → Bag H' b c → Kp b H H' → Q y H'
theorem ok_part2 {f g ga gt : Addr} {fd gd ad td : FuncData} (F : Fun K "_law_part" "_law_part" sPart f fd) (G : Df P w K mg base 1 g gd "_law_pull" ["_law_bag_here", "_law_many"] spPull) (GA : Df P w K mg base 2 ga ad "_law_any" ["_law_bag_here", "_law_things"] (spAny K))
    (GT : Df P w K mg base 3 gt td "_law_term" ["_law_bag_here", "_law_earlier", "_law_every"] spTerm2) (mtuple : mg "tuple" = none) (mrange : mg "range" = none) : FnOk P w K mg base CX0 4 f fd partP spPart2 := by
  refine F.ok scPart (fun vs H Q E h => ?_) (fun cdv A outer s H vs Q E hr h => ?_)
  · obtain ⟨b, c, e, v, x, wire, es, ws, bs, fs, rfl, _⟩ := h
    rfl
  obtain ⟨b, c, e, v, x, wire, es, ws, bs, fs, rfl, B, hw, he, hv, h0, hb, q⟩ := h
  have hr1 : Room 1 _ := hr.mono (by decide)
  have hr2 : Room 2 _ := hr.mono (by decide)
  have hu := hr.units
  refine ⟨_, C8.pss_cut (ps_if (PW.pt (pw_and (pt_cmpR (op_neD hu) (pv 4) (pe_lst pa_nil) (nomark _)) (pw_and (pt_cmpR (op_neD hu) (pv 2) (pe_lst pa_nil) (nomark _)) (pw_and1 (pt_cmpR op_eq (pe_call G.ok hr1 (by rfl) G.m G.kp G.b .nil pass0 (pa_cons (pv 0) (pa_cons pe_int pa_nil))) pe_int (nomark _))))))
      (pss_cons (ps_asg (pe_call GA.ok hr2 (by rfl) GA.m GA.kp GA.b .nil pass0 (pa_cons (pv 0) (pa_cons (pv 4) pa_nil))) (pg_tup (n := 2) rfl (pgs_cons (pg_name (i := 5) scPart.nd rfl (Or.inl rfl)) (pgs_cons (pg_name (i := 6) scPart.nd rfl (Or.inl rfl)) pgs_nil))))
      (C8.pss_cut (ps_setLc (i := 7) (own := [("_law_k", 8)]) (g := gName 8) rfl scPart.nd rfl rfl (sw_true rfl rfl rfl (by decide +kernel)) (pi_range1 (by rfl) mrange (pa_cons (pe_ifExp (pt_cmpR op_eq (pv 5) pe_str (nomark _)) pe_int pe_int) pa_nil))
          (blkOk_by (own := [("_law_k", 8)]) (N := partN) (sc := defScope sPart) (by decide +kernel)) (fun _ _ _ _ _ => pg_name (i := 8) scPart.nd rfl (Or.inl rfl) (Or.inr rfl)) (fun _ _ _ _ _ => pts_nil)
          (fun _ _ _ _ _ => pe_call GA.ok hr2 (by rfl) GA.m GA.kp GA.b .nil pass0 (pa_cons (pv 0) (pa_cons (pv 2) pa_nil))))
      (pss_one (ps_ret (pe_callTy call_tuple_of (by rfl) mtuple (by decide +kernel) (pa_cons (pe_op op_cat (pe_lst (pa_cons (pv 5) (pa_cons (pv 1) (pa_cons (pv 6) pa_nil)))) (pv 7)) pa_nil))))))
      pss_nil)
    (pss_one (ps_ret (pe_tup (pa_cons pe_str (pa_cons (pv 1) (pa_cons (pe_callTy call_tuple_of (by rfl) mtuple (by decide +kernel) (pa_cons (pe_lc (own := [("_law_k", 8)]) (g := gName 8) rfl scPart.nd (pi_range1 (by rfl) mrange (pa_cons (pe_call G.ok hr1 (by rfl) G.m G.kp G.b .nil pass0 (pa_cons (pv 0) (pa_cons pe_int pa_nil))) pa_nil))
        (blkOk_by (own := [("_law_k", 8)]) (N := partN) (sc := defScope sPart) (by decide +kernel)) (fun _ _ _ _ _ => pg_name (i := 8) scPart.nd rfl (Or.inl rfl) (Or.inr rfl)) (fun _ _ _ _ _ => pts_nil)
        (fun _ _ _ _ _ => pe_call GT.ok hr (by rfl) GT.m GT.kp GT.b .nil pass0 (pa_cons (pv 0) (pa_cons (pv 2) (pa_cons (pv 3) pa_nil))))) pa_nil)) pa_nil)))))), ?_⟩
  refine ⟨fun σ' H1 => σ' = [some (.ref b), some (.str wire), some (.ref e), some (.ref v), some (.ref x), none, none, none, none] ∧ Bag H1 b c ∧ Kp b H H1, ?_, ?_⟩
  · -- if boxes != [] and earlier != [] and pull(bag, 2) == 0
    refine ⟨.ref x, rfl, Nat.zero_le _, fun p hp => ?_⟩
    have k1 : Kp b H (upd H p (.lst [])) := (Kp.refl b H).new hp _
    have B1 := B.upd_new hp (.lst [])
    have hb1 := hb.kp B k1
    have he1 := he.kp k1
    refine ⟨_, _, .lst (SqL.of hb1.at_) (dpAll_bx hb1.all), .lst (SqL.of upd_same) .nil, shaped_bx hb.ok, rfl, _, rfl, ?_⟩
    refine ite2 (fun c1 => ?_) (fun _ => ?_)
    case refine_2 => exact iteF ⟨rfl, B1, k1⟩
    have fs0 : 0 < fs.length := by
      cases fs with
      | nil => cases c1
      | cons y r => exact Nat.succ_pos _
    refine ⟨.ref e, rfl, Nat.zero_le _, fun p2 hp2 => ?_⟩
    have k2 := k1.new hp2 (.lst [])
    have B2 := B1.upd_new hp2 (.lst [])
    have hb2 := hb.kp B k2
    have he2 := he.kp k2
    refine ⟨_, _, .lst (SqL.of he2.at_) (dpAll_strs es), .lst (SqL.of upd_same) .nil, shaped_strs he.nm, rfl, _, rfl, ?_⟩
    refine ite2 (fun c2 => ?_) (fun _ => ?_)
    case refine_2 => exact iteF ⟨rfl, B2, k2⟩
    have es0 : 0 < es.length := by
      cases es with
      | nil => cases c2
      | cons y r => exact Nat.succ_pos _
    refine ⟨.ref b, rfl, b, c, 2, rfl, B2, by decide, by decide, fun d H3 d0 d1 B3 k3' => ?_⟩
    have k3 := k2.trans k3'
    have hb3 := hb.kp B k3
    refine ⟨rfl, _, rfl, ?_⟩
    refine ite2 (fun _ => ?_) (fun _ => ?_)
    case refine_2 => exact ⟨rfl, B3, k3⟩
    -- kind, name = any(bag, boxes)
    have bl : bs.length = fs.length := hb.all.1
    have fl := hb.l
    refine ⟨_, rfl, _, rfl, b, c, .ref x, bs, rfl, B3, .inl ⟨x, rfl, hb.ne, SqL.of hb3.at_⟩, by omega, by omega, fun y H4 hy B4 k4' => ?_⟩
    have k4 := k3.trans k4'
    have hb4 := hb.kp B k4
    obtain ⟨i, hi⟩ := List.getElem?_of_mem hy
    obtain ⟨⟨kd, f⟩, hf, t, rfl, ht⟩ := hb4.all.get hi
    obtain ⟨g1, g2⟩ := hb.ok _ (List.mem_of_getElem? hf)
    refine ⟨t, _, rfl, SqT.of ht, rfl, _, _, rfl, _, _, rfl, rfl, ?_⟩
    -- ends
    refine ⟨fun σ' H5 => ∃ (D : Addr) (ds : List Str), σ' = [some (.ref b), some (.str wire), some (.ref e), some (.ref v), some (.ref x), some (.str kd), some (.str f), some (.ref D), none] ∧ Bag H5 b c ∧ Kp b H H5 ∧ D ≠ b ∧ PairL kd ds.length ∧ (∀ z ∈ ds, IsNm z ∧ z ∈ es) ∧ H5 D = some (.lst (ds.map V.str)), ?_, ?_⟩
    · refine ⟨_, rfl, rfl, _, rfl, ?_⟩
      refine ite2 (fun cp => ?_) (fun cp => ?_)
      · refine ⟨2, rfl, by decide, by decide, fun D hD => ?_⟩
        have nD := B4.ne_new hD
        have hD0 : H D = none := k4.free B4 hD
        refine lc_range (lo := 0) (n := 2) (fun i H5 => Bag H5 b c ∧ Kp b H H5 ∧ ∃ ds : List Str, ds.length = i ∧ (∀ z ∈ ds, IsNm z ∧ z ∈ es) ∧ H5 D = some (.lst (ds.map V.str)))
          ⟨B4.upd_new hD _, k4.wr hD0 _, [], rfl, (fun z hz => nomatch hz), upd_same⟩ (fun i H5 hi ⟨B5, k5, ds, hl, hn, hD5⟩ => ?_) (fun H5 ⟨B5, k5, ds, hl, hn, hD5⟩ => ?_)
        · refine ⟨rfl, _, rfl, _, rfl, any_mem B5 (he.kp k5) es0 fun z H6 nz B6 k6 => ?_⟩
          refine ⟨_, k6 _ _ hD5 nD.1.symm, by rw [List.length_map, hl]; exact small1000 (by omega), B6.wr nD _, (k5.trans k6).wr hD0 _, ds ++ [z], by rw [List.length_append, hl]; rfl, fun y hy => ?_, by rw [upd_same, List.map_append]; rfl⟩
          rcases List.mem_append.mp hy with h | h
          · exact hn y h
          · rw [List.mem_singleton.mp h]
            exact nz
        · exact ⟨D, ds, rfl, B5, k5, nD.1.symm, ⟨by omega, .inl ⟨V.str.inj (of_decide_eq_true cp), hl⟩⟩, hn, hD5⟩
      · refine ⟨1, rfl, by decide, by decide, fun D hD => ?_⟩
        have nD := B4.ne_new hD
        have hD0 : H D = none := k4.free B4 hD
        refine lc_range (lo := 0) (n := 1) (fun i H5 => Bag H5 b c ∧ Kp b H H5 ∧ ∃ ds : List Str, ds.length = i ∧ (∀ z ∈ ds, IsNm z ∧ z ∈ es) ∧ H5 D = some (.lst (ds.map V.str)))
          ⟨B4.upd_new hD _, k4.wr hD0 _, [], rfl, (fun z hz => nomatch hz), upd_same⟩ (fun i H5 hi ⟨B5, k5, ds, hl, hn, hD5⟩ => ?_) (fun H5 ⟨B5, k5, ds, hl, hn, hD5⟩ => ?_)
        · refine ⟨rfl, _, rfl, _, rfl, any_mem B5 (he.kp k5) es0 fun z H6 nz B6 k6 => ?_⟩
          refine ⟨_, k6 _ _ hD5 nD.1.symm, by rw [List.length_map, hl]; exact small1000 (by omega), B6.wr nD _, (k5.trans k6).wr hD0 _, ds ++ [z], by rw [List.length_append, hl]; rfl, fun y hy => ?_, by rw [upd_same, List.map_append]; rfl⟩
          rcases List.mem_append.mp hy with h | h
          · exact hn y h
          · rw [List.mem_singleton.mp h]
            exact nz
        · exact ⟨D, ds, rfl, B5, k5, nD.1.symm, ⟨by omega, .inr ⟨fun e => cp (by rw [e]; exact decide_eq_true rfl), hl⟩⟩, hn, hD5⟩
    rintro σ' H5 ⟨D, ds, rfl, B5, k5, nDb, ⟨dl, dpl⟩, dn, hD⟩
    refine ⟨_, rfl, _, rfl, _, rfl, (by show 3 ≤ sizeLine; decide), fun m hm => ?_⟩
    have nDm : D ≠ m := ne_of_none hD hm
    refine ⟨_, rfl, m, D, _, _, rfl, rfl, upd_same, by rw [upd_ne nDm]; exact hD, ?_, fun m2 hm2 => ?_⟩
    · rw [List.length_map]
      show 3 + ds.length ≤ _
      exact Nat.le_trans (show 3 + ds.length ≤ 1000 by omega) (by decide)
    refine ⟨m2, _, rfl, .inl ⟨SqL.of upd_same, fun t2 ht2 => ?_⟩⟩
    refine q (.ref t2) (.flat kd wire (f :: ds)) _ ⟨t2, rfl, upd_same⟩ ⟨(kinds_ok g1).2.1, (kinds_ok g1).2.2.1, (kinds_ok g1).2.2.2, by have := hw.l4; omega, by show ds.length + 1 ≤ 10; omega, fun z hz => ?_⟩ ⟨hw, flat_ok g1 g2 (fun z hz => (dn z hz).1) dpl⟩ rfl ⟨fun z hz => .inl (dn z hz).2, fun z hz => (dn z hz).2, fun x hx => ⟨by rw [List.mem_singleton.mp hx]; exact List.mem_of_getElem? hf, fun e0 => by rw [e0] at es0; exact absurd es0 (by decide)⟩, trivial, kinds_ns g1⟩ (((B5.upd_new hm _).upd_new hm2 _).upd_new ht2 _) (((k5.new hm _).new hm2 _).new ht2 _)
    rcases List.mem_cons.mp hz with h | h
    · rw [h]
      have : f.length ≤ 4 := g2.l4
      omega
    · have := (dn z h).1.l4; omega
  rintro σ' H1 ⟨rfl, B1, k1⟩
  -- ("mix", wire, tuple([term(bag, earlier, every) for k in range(pull(bag, 4))]))
  refine ⟨_, rfl, .ref b, rfl, b, c, 4, rfl, B1, by decide, by decide, fun d H2 d0 d1 B2 k2' => ?_⟩
  have k2 := k1.trans k2'
  refine ⟨d, rfl, by omega, by omega, fun D hD => ?_⟩
  have nD := B2.ne_new hD
  have hD0 : H D = none := k2.free B2 hD
  refine lc_range (lo := 0) (n := d.toNat) (fun i H3 => Bag H3 b c ∧ Kp b H H3 ∧ ∃ us ts, All2 (TmAt H3) us ts ∧ ts.length = i ∧ (∀ t ∈ ts, SmT2 es ws t) ∧ H3 D = some (.lst us))
    ⟨B2.upd_new hD _, k2.wr hD0 _, [], [], .nil, rfl, (fun t ht => nomatch ht), upd_same⟩ (fun i H3 hi ⟨B3, k3, us, ts, hA, hl, hs, hD3⟩ => ?_) (fun H3 ⟨B3, k3, us, ts, hA, hl, hs, hD3⟩ => ?_)
  · refine ⟨rfl, _, rfl, _, rfl, _, rfl, b, c, e, v, es, ws, rfl, B3, he.kp k3, hv.kp k3, h0, fun y t H4 ht hst B4 k4 => ?_⟩
    have hul : us.length = i := by rw [hA.1, hl]
    have hD4 := k4 _ _ hD3 nD.1.symm
    have tw : ∀ (z : V) (q : Tm), TmAt H4 z q → TmAt (upd H4 D (.lst (us ++ [y]))) z q := fun z q ⟨a, e1, h1⟩ => ⟨a, e1, by rw [upd_ne (ne_of h1 hD4 (by intro z; cases z))]; exact h1⟩
    refine ⟨us, hD4, by rw [hul]; exact small1000 (by omega), B4.wr nD _, (k3.trans k4).wr hD0 _, us ++ [y], ts ++ [t], (hA.mono fun z q h => tw z q (h.tups (k4.tups B3))).snoc (tw y t ht), by rw [List.length_append, hl]; rfl, fun z hz => ?_, upd_same⟩
    rcases List.mem_append.mp hz with h | h
    · exact hs z h
    · rw [List.mem_singleton.mp h]
      exact hst
  · refine ⟨D, _, rfl, .inl ⟨SqL.of hD3, fun t ht => ?_⟩⟩
    refine ⟨(by show 3 ≤ sizeLine; decide), fun u hu => ?_⟩
    have ht1 := upd_same (H := H3) (a := t) (o := .tup us)
    have ntu : t ≠ u := ne_of_none ht1 hu
    have sm := (same_upd ht (.tup us)).trans (same_upd hu (.tup [.str "mix", .str wire, .ref t]))
    exact q (.ref u) (.mix wire ts) _ ⟨u, t, us, rfl, upd_same, by rw [upd_ne ntu]; exact upd_same, hA.mono fun _ _ z => z.tups (Same.tups sm)⟩ ⟨by have := hw.l4; omega, by omega, fun t ht => (hs t ht).1.1⟩ ⟨hw, by omega, fun t ht => (hs t ht).1⟩ rfl ⟨fun z hz => (by obtain ⟨t, ht, rfl⟩ := List.mem_map.mp hz; exact (hs t ht).2.1), fun z hz => (by obtain ⟨t, ht, rfl⟩ := List.mem_map.mp hz; have h := List.mem_filter.mp ht; exact (hs t h.1).2.2 (of_decide_eq_true h.2)), fun x hx => (nomatch (show x ∈ ([] : List (Str × Str × Str)) from hx)), trivial, by show ¬ ("mix" : Str) = "source"; decide⟩ ((B3.upd_new ht _).upd_new hu _) ((k3.new ht _).new hu _)
/-- the part at place i of what is drawn -/
def DrawnAt (k : Nat) (ws : List Str) (fs : List (Str × Str)) (i : Nat) (p : Pt) : Prop := (SmP p ∧ OkP p) ∧ ws[i]? = some (Pw p) ∧ ((i < k ∧ p = .flat "source" (Pw p) []) ∨ (k ≤ i ∧ FromP (ws.take i) ws fs p))
theorem idx_snoc {R : Nat → Pt → Prop} {ps : List Pt} {p : Pt} (h : ∀ j q, ps[j]? = some q → R j q) (hp : R ps.length p) : ∀ j q, (ps ++ [p])[j]? = some q → R j q := by
  intro j q hq
  rw [List.getElem?_append] at hq
  by_cases lt : j < ps.length
  · rw [if_pos lt] at hq
    exact h j q hq
  · rw [if_neg lt] at hq
    cases e : j - ps.length with
    | zero =>
      rw [e] at hq
      cases hq
      have : j = ps.length := by omega
      rw [this]
      exact hp
    | succ n => rw [e] at hq; cases hq
def spParts2 : Sp := fun vs H Q _ => ∃ (b c a x : Addr) (k : Int) (ws : List Str) (bs : List V) (fs : List (Str × Str)), vs = [.ref b, .ref a, .int k, .ref x] ∧ Bag H b c ∧ NmL H b a ws ∧ 0 ≤ k ∧ k ≤ 100 ∧ BxL H b x bs fs ∧
  ∀ (l : Addr) (us : List V) (ps : List Pt) (H' : Hp), l ≠ b → H' l = some (.lst us) → All2 (PtAt H') us ps → (∀ i p, ps[i]? = some p → DrawnAt k.toNat ws fs i p) → ps.length = ws.length → Bag H' b c → Kp b H H' → Q (.ref l) H'
theorem ok_parts2 {f gt : Addr} {fd td : FuncData} (F : Fun K "_law_parts" "_law_parts" sParts f fd) (GT : Df P w K mg base 4 gt td "_law_part" partP spPart2) (mlen : mg "len" = none) (mrange : mg "range" = none) : FnOk P w K mg base CX0 5 f fd partsP spParts2 := by
  refine F.ok scParts (fun vs H Q E h => ?_) (fun cdv A outer s H vs Q E hr h => ?_)
  · obtain ⟨b, c, a, x, k, ws, bs, fs, rfl, _⟩ := h
    rfl
  obtain ⟨b, c, a, x, k, ws, bs, fs, rfl, B, ha, k0, k1, hb, q⟩ := h
  refine ⟨_, pss_cons (ps_setLc (i := 4) (own := [("_law_wire", 6)]) (g := gName 6) rfl scParts.nd rfl rfl (sw_true rfl rfl rfl (by decide +kernel)) (pi_list (pe_slice sl_list (pv 1) po_none (po_some (pv 2))))
      (blkOk_by (own := [("_law_wire", 6)]) (N := partsN) (sc := defScope sParts) (by decide +kernel)) (fun _ _ _ _ _ => pg_name (i := 6) scParts.nd rfl (Or.inl rfl) (Or.inr rfl)) (fun _ _ _ _ _ => pts_nil)
      (fun _ _ _ _ _ => pe_tup (pa_cons pe_str (pa_cons (pv 6) pa_nil))))
    (pss_cons (ps_for PassesOwn.never rfl (pi_range2 (by rfl) mrange (pa_cons (pv 2) (pa_cons (pe_callB call_len_seq (by rfl) mlen PySem.boot_len (pa_cons (pv 1) pa_nil)) pa_nil))) (pg_name (i := 5) scParts.nd rfl (Or.inl rfl))
      (pss_one (ps_expr (pe_bm PySem.F.plainAttrs_list PySem.F.slot_list_append PySem.F.type_list_append mt_append (pv 4) (pa_cons
        (pe_call GT.ok hr (by rfl) GT.m GT.kp GT.b .nil pass0 (pa_cons (pv 0) (pa_cons (pe_ix ix_list (pv 1) (pv 5) (fun _ _ => rfl)) (pa_cons (pe_slice sl_list (pv 1) po_none (po_some (pv 5))) (pa_cons (pv 1) (pa_cons (pv 3) pa_nil)))))) pa_nil)))))
    (pss_one (ps_ret (pv 4)))), ?_⟩
  have wl := ha.l
  -- the sources
  refine ⟨.ref a, rfl, .int k, rfl, k, rfl, a, _, rfl, SqL.of ha.at_, fun m hm => ?_⟩
  rw [cut_to k0]
  have nm := B.ne_new hm
  have km : Kp b H (upd H m (.lst ((ws.take k.toNat).map V.str))) := (Kp.refl b H).new hm _
  have Bm := B.upd_new hm (.lst ((ws.take k.toNat).map V.str))
  have hm1 : (upd H m (.lst ((ws.take k.toNat).map V.str))) m = some (.lst ((ws.take k.toNat).map V.str)) := upd_same
  generalize (upd H m (.lst ((ws.take k.toNat).map V.str))) = Hm at km Bm hm1
  refine ⟨m, rfl, ⟨_, SqL.of hm1⟩, fun D hD => ?_⟩
  have nD := Bm.ne_new hD
  have hD0 : H D = none := km.free Bm hD
  have smW : ∀ z, IsNm z → SmP (.flat "source" z []) := fun z hz => ⟨by decide +kernel, by decide +kernel, by decide +kernel, by have := hz.l4; omega, Nat.zero_le _, fun e he => nomatch he⟩
  refine lc_list (K := K) (a := m) (xs := (ws.take k.toNat).map V.str) (fun i H2 => Bag H2 b c ∧ Kp b H H2 ∧ H2 m = some (.lst ((ws.take k.toNat).map V.str)) ∧ ∃ us ps, All2 (PtAt H2) us ps ∧ ps.length = i ∧ (∀ i p, ps[i]? = some p → DrawnAt k.toNat ws fs i p) ∧ H2 D = some (.lst us))
    ⟨Bm.upd_new hD _, km.wr hD0 _, by rw [upd_ne (ne_of_none hm1 hD)]; exact hm1, [], [], .nil, rfl, (fun i p hp => nomatch hp), upd_same⟩ (fun i H2 _ ⟨_, _, h2, _⟩ => SqL.of h2) (fun i y H2 hy ⟨B2, k2, hm2, us, ps, hA, hl, hs, hD2⟩ => ?_) (fun H2 ⟨B2, k2, hm2, us, ps, hA, hl, hs, hD2⟩ => ?_)
  · have hi : i < (ws.take k.toNat).length := by
      have h := (List.getElem?_eq_some_iff.mp hy).1
      rw [List.length_map] at h
      exact h
    rw [List.getElem?_map, List.getElem?_eq_getElem hi] at hy
    cases Option.some.inj hy
    have hz : IsNm (ws.take k.toNat)[i] := ha.nm _ (List.mem_of_mem_take (List.getElem_mem hi))
    have hul : us.length = i := by rw [hA.1, hl]
    have hi2 : i < 1001 := by
      rw [List.length_take] at hi
      omega
    refine ⟨rfl, _, rfl, (by show 2 ≤ sizeLine; decide), fun t ht => ?_⟩
    have hDt := ne_of_none hD2 ht
    have hmD : m ≠ D := ne_of_none hm1 hD
    have hD3 : (upd H2 t (.tup [.str "source", .str (ws.take k.toNat)[i]])) D = some (.lst us) := by rw [upd_ne hDt]; exact hD2
    refine ⟨us, hD3, by rw [hul]; exact small1000 (by omega), (B2.upd_new ht _).wr nD _, (k2.new ht _).wr hD0 _, ?_, us ++ [.ref t], ps ++ [.flat "source" (ws.take k.toNat)[i] []], ?_, by rw [List.length_append, hl]; rfl, idx_snoc hs ?_, upd_same⟩
    · rw [upd_ne hmD, upd_ne (ne_of_none hm2 ht)]
      exact hm2
    · refine (hA.mono fun _ _ z => (z.tups (Same.tups (same_upd ht _))).wr hD3).snoc ⟨t, rfl, ?_⟩
      rw [upd_ne (fun e => hDt e.symm)]
      exact upd_same
    · rw [hl]
      rw [List.length_take] at hi
      refine ⟨⟨smW _ hz, ⟨hz, .inl ⟨rfl, rfl⟩⟩⟩, ?_, .inl ⟨by omega, rfl⟩⟩
      rw [List.getElem?_eq_getElem (by omega)]
      show _ = some (ws.take k.toNat)[i]
      rw [List.getElem_take]
  -- the others
  rw [List.length_map, List.length_take] at hl
  have ha2 := ha.kp k2
  refine ⟨.int k, rfl, .ref a, rfl, a, _, rfl, .inl (SqL.of ha2.at_), k, _, rfl, ⟨by omega, by omega, by omega, by rw [List.length_map]; omega⟩, ?_⟩
  rw [List.length_map]
  refine for_range (lo := k) (n := ((ws.length : Int) - k).toNat) (fun i σ H3 => ∃ v5, σ = [some (.ref b), some (.ref a), some (.int k), some (.ref x), some (.ref D), v5, none] ∧ Bag H3 b c ∧ Kp b H H3 ∧ ∃ us ps, All2 (PtAt H3) us ps ∧ ps.length = min k.toNat ws.length + i ∧ (∀ i p, ps[i]? = some p → DrawnAt k.toNat ws fs i p) ∧ H3 D = some (.lst us))
    ⟨none, rfl, B2, k2, us, ps, hA, hl, hs, hD2⟩ ?_ ?_
  · rintro i σ H3 hi ⟨v5, rfl, B3, k3, us, ps, hA, hl, hs, hD3⟩
    have hki : (k + (i : Int)).toNat < ws.length := by omega
    have hat : atI (ws.map V.str) (k + (i : Int)) = some (.str ws[(k + (i : Int)).toNat]) := by
      have e : atI (ws.map V.str) (((k + (i : Int)).toNat : Nat) : Int) = some (.str ws[(k + (i : Int)).toNat]) := atI_nat (by rw [List.getElem?_map, List.getElem?_eq_getElem hki] <;> rfl)
      rw [Int.toNat_of_nonneg (by omega)] at e
      exact e
    have ha3 := ha.kp k3
    have hz : IsNm ws[(k + (i : Int)).toNat] := ha.nm _ (List.getElem_mem hki)
    refine ⟨.ref D, rfl, .inl ⟨rfl, _, SqL.of hD3⟩, _, rfl, _, rfl, _, rfl, a, _, _, _, rfl, rfl, SqL.of ha3.at_, hat, ?_⟩
    refine ⟨.ref a, rfl, .int (k + (i : Int)), rfl, _, rfl, a, _, rfl, SqL.of ha3.at_, fun m4 hm4 => ?_⟩
    rw [cut_to (by omega)]
    have k4 := k3.new hm4 (.lst ((ws.take (k + (i : Int)).toNat).map V.str))
    have B4 := B3.upd_new hm4 (.lst ((ws.take (k + (i : Int)).toNat).map V.str))
    refine ⟨_, rfl, _, rfl, b, c, m4, a, x, _, ws.take (k + (i : Int)).toNat, ws, bs, fs, rfl, B4, hz, (ha.kp k4).take _ (B3.fresh hm4) upd_same, ha.kp k4, by omega, hb.kp B k4, fun y p H5 hyp hsp hop hpw hfr B5 k5 => ?_⟩
    have k35 : Kp b H3 H5 := ((Kp.refl b H3).new hm4 _).trans k5
    have hD5 : H5 D = some (.lst us) := k35 _ _ hD3 nD.1.symm
    have hul : us.length ≤ 1000 := by rw [hA.1, hl]; omega
    refine ⟨D, us, y, rfl, rfl, hD5, small1000 hul, ?_⟩
    refine ⟨_, rfl, B5.wr nD _, (k3.trans k35).wr hD0 _, us ++ [y], ps ++ [p], (hA.mono fun _ _ z => (z.tups (k35.tups B3)).wr hD5).snoc (hyp.wr hD5), by rw [List.length_append, hl]; rfl, idx_snoc hs ?_, upd_same⟩
    have hpl : ps.length = (k + (i : Int)).toNat := by omega
    rw [hpl]
    exact ⟨⟨hsp, hop⟩, by rw [hpw, List.getElem?_eq_getElem hki], .inr ⟨by omega, hfr⟩⟩
  · rintro σ H3 ⟨v5, rfl, B3, k3, us, ps, hA, hl, hs, hD3⟩
    exact ⟨.ref D, rfl, q D us ps H3 nD.1.symm hD3 hA hs (by omega) B3 k3⟩
end
end Un
namespace Un
open PySem L2 TL
section
variable {P : Program} {w : World} {K : PySem.W.Frag} {mg : Str → Option Value} {base : Heap}
/-! ### drawn names are different -/
def ltr (f1 : Int) (j : Nat) : Nat := letters.cps.toList.getD ((f1 + 7 * (0 + (j : Int))) % 26).toNat 0
def nmTl (cs : List Nat) (a1 f1 : Int) (j : Nat) : List Nat := cs.take a1.toNat ++ [ltr f1 j] ++ cs.drop a1.toNat
theorem ltr_inj {f1 : Int} {j k : Nat} (hj : j < 26) (hk : k < 26) (h : ltr f1 j = ltr f1 k) : j = k := by
  have all : ∀ a b : Fin 26, letters.cps.toList.getD a.val 0 = letters.cps.toList.getD b.val 0 → a = b := by decide +kernel
  have a0 : 0 ≤ (f1 + 7 * (0 + (j : Int))) % 26 := Int.emod_nonneg _ (by decide)
  have a1 : (f1 + 7 * (0 + (j : Int))) % 26 < 26 := Int.emod_lt_of_pos _ (by decide)
  have b0 : 0 ≤ (f1 + 7 * (0 + (k : Int))) % 26 := Int.emod_nonneg _ (by decide)
  have b1 : (f1 + 7 * (0 + (k : Int))) % 26 < 26 := Int.emod_lt_of_pos _ (by decide)
  have e := all ⟨((f1 + 7 * (0 + (j : Int))) % 26).toNat, by omega⟩ ⟨((f1 + 7 * (0 + (k : Int))) % 26).toNat, by omega⟩ h
  have e2 := congrArg Fin.val e
  simp only at e2
  omega
theorem nmTl_inj {cs : List Nat} {a1 f1 : Int} {j k : Nat} (hj : j < 26) (hk : k < 26) (h : nmTl cs a1 f1 j = nmTl cs a1 f1 k) : j = k := by
  unfold nmTl at h
  have h1 := List.append_cancel_right h
  have h2 := List.append_cancel_left h1
  exact ltr_inj hj hk (List.cons.inj h2).1
theorem nd_of_tl {ws : List Str} {cs : List Nat} {a1 f1 : Int} (hl : ws.length ≤ 26) (h : ∀ j z, ws[j]? = some z → tl z = nmTl cs a1 f1 j) : ws.Nodup := by
  rw [List.nodup_iff_pairwise_ne, List.pairwise_iff_getElem]
  intro i j hi hj lt e
  have e1 := h i _ (List.getElem?_eq_getElem hi)
  have e2 := h j _ (List.getElem?_eq_getElem hj)
  rw [e] at e1
  have := nmTl_inj (by omega) (by omega) (e1.symm.trans e2)
  omega
theorem str_snoc {R : Nat → Str → Prop} {ps : List Str} {p : Str} (h : ∀ j q, ps[j]? = some q → R j q) (hp : R ps.length p) : ∀ j q, (ps ++ [p])[j]? = some q → R j q := by
  intro j q hq
  rw [List.getElem?_append] at hq
  by_cases lt : j < ps.length
  · rw [if_pos lt] at hq
    exact h j q hq
  · rw [if_neg lt] at hq
    cases e : j - ps.length with
    | zero =>
      rw [e] at hq
      cases hq
      have : j = ps.length := by omega
      rw [this]
      exact hp
    | succ n => rw [e] at hq; cases hq
def spNames2 : Sp := fun vs H Q _ => ∃ (b c : Addr) (many : Int), vs = [.ref b, .int many] ∧ Bag H b c ∧ 0 ≤ many ∧ many ≤ 26 ∧
  ∀ (l : Addr) (ws : List Str) (H' : Hp), (ws.length : Int) = many → (∀ z ∈ ws, IsNm z) → ws.Nodup → Bag H' b c → Kp b H H' → H l = none → H' l = some (.lst (ws.map V.str)) → Q (.ref l) H'
theorem ok_names2 {f gp ga : Addr} {fd gpd gad : FuncData} (F : Fun K "_law_names" "_law_names" sNames f fd) (GP : FnOk P w K mg base CX0 1 gp gpd ["_law_bag_here", "_law_many"] spPull) (bP : Binds K gpd ["_law_bag_here", "_law_many"] []) (kP : PySem.W.keepIn K (.ref gp) = true) (mP : mg "_law_pull" = some (.ref gp))
    (GA : FnOk P w K mg base CX0 2 ga gad ["_law_bag_here", "_law_things"] (spAny K)) (bA : Binds K gad ["_law_bag_here", "_law_things"] []) (kA : PySem.W.keepIn K (.ref ga) = true) (mA : mg "_law_any" = some (.ref ga)) (mlen : mg "len" = none) (mint : mg "int" = none) (mrange : mg "range" = none) :
    FnOk P w K mg base CX0 3 f fd ["_law_bag_here", "_law_many"] spNames2 := by
  refine F.ok scNames (fun vs H Q E h => ?_) (fun cdv A outer s H vs Q E hr h => ?_)
  · obtain ⟨b, c, many, rfl, _⟩ := h
    rfl
  obtain ⟨b, c, many, rfl, B, m0, m1, q⟩ := h
  have hr1 : Room 1 _ := hr.mono (by decide)
  refine ⟨_, pss_cons (ps_set (i := 2) scNames.nd rfl (Or.inr rfl) pe_str)
    (pss_cons (ps_set (i := 3) scNames.nd rfl (Or.inr rfl) (pe_join pe_str (pe_lc (own := [("_law_k", 6)]) (g := gName 6) rfl scNames.nd (pi_range1 (by rfl) mrange (pa_cons (pe_call GP hr1 (by rfl) mP kP bP .nil pass0 (pa_cons (pv 0) (pa_cons pe_int pa_nil))) pa_nil))
        (blkOk_by (own := [("_law_k", 6)]) (N := ["_law_bag_here", "_law_many", "_law_letters", "_law_stem", "_law_at", "_law_first", "_law_k"]) (sc := defScope sNames) (by decide +kernel))
        (fun _ _ _ _ _ => pg_name (i := 6) scNames.nd rfl (Or.inl rfl) (Or.inr rfl)) (fun _ _ _ _ _ => pts_nil)
        (fun _ _ _ _ _ => pe_call GA hr (by rfl) mA kA bA .nil pass0 (pa_cons (pv 0) (pa_cons (pv 2) pa_nil))))))
    (pss_cons (ps_asg (pe_tup (pa_cons (pe_call GP hr1 (by rfl) mP kP bP .nil pass0 (pa_cons (pv 0) (pa_cons (pe_op op_add (pe_callB call_len (by rfl) mlen PySem.boot_len (pa_cons (pv 3) pa_nil)) pe_int) pa_nil))) (pa_cons (pe_call GP hr1 (by rfl) mP kP bP .nil pass0 (pa_cons (pv 0) (pa_cons pe_int pa_nil))) pa_nil)))
        (pg_tup (n := 2) rfl (pgs_cons (pg_name (i := 4) scNames.nd rfl (Or.inr rfl) (Or.inl rfl)) (pgs_cons (pg_name (i := 5) scNames.nd rfl (Or.inr rfl) (Or.inl rfl)) pgs_nil))))
    (pss_one (ps_ret (pe_lc (own := [("_law_k", 6)]) (g := gName 6) rfl scNames.nd (pi_range1 (by rfl) mrange (pa_cons (pv 1) pa_nil))
        (blkOk_by (own := [("_law_k", 6)]) (N := ["_law_bag_here", "_law_many", "_law_letters", "_law_stem", "_law_at", "_law_first", "_law_k"]) (sc := defScope sNames) (by decide +kernel))
        (fun _ _ _ _ _ => pg_name (i := 6) scNames.nd rfl (Or.inl rfl) (Or.inr rfl)) (fun _ _ _ _ _ => pts_nil)
        (fun _ _ _ _ _ => pe_op op_add_str (pe_op op_add_str (pe_slice sl_str (pv 3) po_none (po_some (pv 4)))
          (pe_ix ix_str (pv 2) (pe_op op_mod (pe_callTy call_int1 (by rfl) mint (by decide +kernel) (pa_cons (pe_op op_add (pv 5) (pe_op op_mul pe_int (pv 6))) pa_nil)) pe_int) (fun _ _ => rfl)))
          (pe_slice sl_str (pv 3) (po_some (pv 4)) po_none))))))), ?_⟩
  -- the stem: letters drawn
  refine ⟨⟨_, rfl⟩, .ref b, rfl, b, c, 4, rfl, B, by decide, by decide, fun d H1 d0 d1 B1 k1 => ?_⟩
  refine ⟨d, rfl, by omega, by omega, fun D hD => ?_⟩
  have nD := B1.ne_new hD
  have hD0 : H D = none := k1.free B1 hD
  refine lc_range (lo := 0) (n := d.toNat) (fun i H2 => Bag H2 b c ∧ Kp b H H2 ∧ ∃ cs : List Nat, cs.length = i ∧ (∀ x ∈ cs, x ∈ letters.cps.toList) ∧ H2 D = some (.lst (cs.map fun x => V.str ⟨#[x]⟩)))
    ⟨B1.upd_new hD _, k1.new hD _, [], rfl, fun x hx => (nomatch hx), upd_same⟩ (fun i H2 hi ⟨B2, k2, cs, hl, hcs, hcD⟩ => ?_) (fun H2 ⟨B2, k2, cs, hl, hcs, hcD⟩ => ?_)
  · refine ⟨rfl, .ref b, rfl, .str letters, rfl, b, c, _, _, rfl, B2, .inr (.inr ⟨letters, rfl, by decide +kernel, rfl⟩), by decide +kernel, by decide +kernel, fun y H3 hy B3 k3 => ?_⟩
    obtain ⟨x, hx, rfl⟩ := List.mem_map.mp hy
    refine ⟨_, k3 _ _ hcD nD.1.symm, ?_, B3.wr nD _, (k2.trans k3).wr hD0 _, cs ++ [x], by rw [List.length_append, hl]; rfl, fun z hz => ?_, ?_⟩
    · rw [List.length_map, hl]
      exact small1000 (by omega)
    · rcases List.mem_append.mp hz with h | h
      · exact hcs z h
      · rw [List.mem_singleton.mp h]
        exact hx
    · rw [upd_same, List.map_append]
      rfl
  · have ey : (cs.map fun x => V.str ⟨#[x]⟩) = ((cs.map fun x => (⟨#[x]⟩ : Str)).map V.str) := by rw [List.map_map]; rfl
    have hlen : cs.length ≤ 3 := by omega
    have hsum : ∀ l : List Nat, ((l.map fun x => (⟨#[x]⟩ : Str)).map (·.length)).sum = l.length := by
      intro l
      induction l with
      | nil => rfl
      | cons x r ih =>
        rw [List.map_cons, List.map_cons, List.sum_cons, ih, List.length_cons]
        show 1 + r.length = _
        omega
    refine ⟨Str.empty, D, cs.map fun x => ⟨#[x]⟩, rfl, rfl, .inl (SqL.of (by rw [hcD, ey])), ?_, ?_⟩
    · rw [hsum]
      show cs.length + _ * 0 ≤ _
      omega
    generalize hst : Txt.join Str.empty (cs.map fun x => (⟨#[x]⟩ : Str)) = st
    have est : tl st = cs := by rw [← hst, glue_signs]
    have lst : st.length = cs.length := by rw [tlen, est]
    -- at, first
    refine ⟨.ref b, rfl, .str st, rfl, .str st, _, rfl, ⟨Nat.le_of_lt (small1000 (by omega)), rfl⟩, _, _, rfl, rfl, b, c, _, rfl, B2, by omega, by omega, fun a1 H3 a0 a1' B3 k3 => ?_⟩
    refine ⟨.ref b, rfl, b, c, 26, rfl, B3, by decide, by decide, fun f1 H4 f0 f1' B4 k4 => ?_⟩
    refine ⟨(by show 2 ≤ sizeLine; decide), fun t ht => ?_⟩
    refine ⟨t, _, rfl, SqT.of upd_same, rfl, _, _, rfl, _, _, rfl, rfl, ?_⟩
    have k5 : Kp b H (upd H4 t (.tup [.int a1, .int f1])) := ((k2.trans k3).trans k4).new ht _
    have B5 : Bag (upd H4 t (.tup [.int a1, .int f1])) b c := B4.upd_new ht _
    -- the names
    refine ⟨_, rfl, many, rfl, by omega, by omega, fun L hL => ?_⟩
    have nL := B5.ne_new hL
    have hL0 : H L = none := k5.free B5 hL
    refine lc_range (lo := 0) (n := many.toNat) (fun i H6 => Bag H6 b c ∧ Kp b H H6 ∧ ∃ ws : List Str, ws.length = i ∧ (∀ z ∈ ws, IsNm z) ∧ (∀ j z, ws[j]? = some z → tl z = nmTl cs a1 f1 j) ∧ H6 L = some (.lst (ws.map V.str)))
      ⟨B5.upd_new hL _, k5.new hL _, [], rfl, fun x hx => (nomatch hx), fun j x hx => (nomatch hx), upd_same⟩ (fun i H6 hi ⟨B6, k6, ws, hl6, hws, htl, hcL⟩ => ?_) (fun H6 ⟨B6, k6, ws, hl6, hws, htl, hcL⟩ => ?_)
    · have hstl : st.length ≤ sizeLine := Nat.le_of_lt (small1000 (by omega))
      have ha0 : (0 : Int) ≤ a1 := a0
      have ha1 : a1 ≤ (st.length : Int) := by omega
      have hm0 : 0 ≤ (f1 + 7 * (0 + (i : Int))) % 26 := Int.emod_nonneg _ (by decide)
      have hm1 : (f1 + 7 * (0 + (i : Int))) % 26 < 26 := Int.emod_lt_of_pos _ (by decide)
      obtain ⟨x, hx', hxe⟩ : ∃ x, (atI letters.cps.toList ((f1 + 7 * (0 + (i : Int))) % 26) = some x ∧ x ∈ letters.cps.toList) ∧ x = ltr f1 i := by
        have hlt : ((f1 + 7 * (0 + (i : Int))) % 26).toNat < letters.cps.toList.length := by
          rw [show letters.cps.toList.length = 26 by decide +kernel]
          omega
        have e : atI letters.cps.toList ((((f1 + 7 * (0 + (i : Int))) % 26).toNat : Nat) : Int) = some letters.cps.toList[((f1 + 7 * (0 + (i : Int))) % 26).toNat] := atI_nat (by rw [List.getElem?_eq_getElem hlt])
        rw [Int.toNat_of_nonneg hm0] at e
        exact ⟨_, ⟨e, List.getElem_mem hlt⟩, by unfold ltr; rw [List.getD_eq_getElem?_getD, List.getElem?_eq_getElem hlt]; rfl⟩
      have hx := hx'
      refine ⟨rfl, .str st, rfl, .int a1, rfl, a1, rfl, st, rfl, hstl, ?_⟩
      refine ⟨.str letters, rfl, .int f1, rfl, .int (0 + (i : Int)), rfl, 7, _, rfl, rfl, .inl ⟨by decide, by decide⟩, _, _, rfl, rfl, .inl ⟨_, rfl, _, 26, rfl, rfl, (by show (0 : Int) < 26; decide), ?_⟩⟩
      refine ⟨letters, _, x, rfl, rfl, by decide +kernel, hx.1, ?_⟩
      have hc1 := cutS_length st none (some a1)
      have hc2 := cutS_length st (some a1) none
      have h1000 : (1000 : Nat) ≤ sizeLine := by decide
      have hx1 : (⟨#[x]⟩ : Str).length = 1 := rfl
      refine ⟨_, _, rfl, rfl, by rw [hx1]; omega, ?_⟩
      refine ⟨.str st, rfl, .int a1, rfl, a1, rfl, st, rfl, hstl, ?_⟩
      have hl1 : (cutS st none (some a1) ++ (⟨#[x]⟩ : Str)).length = (cutS st none (some a1)).length + 1 := by rw [Str.length_append, hx1]
      refine ⟨_, _, rfl, rfl, by rw [hl1]; omega, ?_⟩
      have htn : tl (cutS st none (some a1) ++ (⟨#[x]⟩ : Str) ++ cutS st (some a1) none) = nmTl cs a1 f1 i := by
        rw [tl_append, tl_append, tl_cut_to st a1 ha0 ha1, tl_cut_from st a1 ha0 ha1, est]
        unfold nmTl
        rw [← hxe]
      have hnm : IsNm (cutS st none (some a1) ++ (⟨#[x]⟩ : Str) ++ cutS st (some a1) none) := by
        have e : tl (cutS st none (some a1) ++ (⟨#[x]⟩ : Str) ++ cutS st (some a1) none) = cs.take a1.toNat ++ [x] ++ cs.drop a1.toNat := by
          rw [tl_append, tl_append, tl_cut_to st a1 ha0 ha1, tl_cut_from st a1 ha0 ha1, est]
        have el : (cutS st none (some a1) ++ (⟨#[x]⟩ : Str) ++ cutS st (some a1) none).length = cs.length + 1 := by
          rw [tlen, e, List.length_append, List.length_append, List.length_take, List.length_drop]
          show min a1.toNat cs.length + 1 + (cs.length - a1.toNat) = cs.length + 1
          omega
        refine ⟨fun y hy => ?_, by omega, by omega⟩
        rw [e] at hy
        rcases List.mem_append.mp hy with hy | hy
        · rcases List.mem_append.mp hy with hy | hy
          · exact hcs y (List.mem_of_mem_take hy)
          · rw [List.mem_singleton.mp hy]
            exact hx.2
        · exact hcs y (List.mem_of_mem_drop hy)
      refine ⟨_, hcL, ?_, B6.wr nL _, k6.wr hL0 _, ws ++ [cutS st none (some a1) ++ (⟨#[x]⟩ : Str) ++ cutS st (some a1) none], by rw [List.length_append, hl6]; rfl, fun z hz => ?_, str_snoc htl (by rw [hl6]; exact htn), ?_⟩
      · rw [List.length_map, hl6]
        exact small1000 (by omega)
      · rcases List.mem_append.mp hz with h | h
        · exact hws z h
        · rw [List.mem_singleton.mp h]
          exact hnm
      · rw [upd_same, List.map_append]
        rfl
    · exact q L ws H6 (by omega) hws (nd_of_tl (by omega) htl) B6 k6 hL0 hcL
/-! ### nets of drawn parts -/
structure NetM (ps : List Pt) (k : Nat) : Prop where
  ok : ∀ p ∈ ps, PlP p
  nd : (wiresP ps).Nodup
  known : ∀ p ∈ ps, ∀ e ∈ endsP p, e ∈ wiresP ps
  src : (sourcesP ps).length ≤ k
  box : (boxesP ps).length ≤ 8
  ag : Agree (boxesP ps)
  rk : ∃ r : Str → Nat, ∀ p ∈ ps, ∀ y ∈ leadsP p, r y < r (Pw p)
theorem NetM.perm {ps qs : List Pt} {k : Nat} (h : NetM ps k) (e : qs.Perm ps) : NetM qs k := by
  have ew : (wiresP qs).Perm (wiresP ps) := e.map _
  have eb : (boxesP qs).Perm (boxesP ps) := e.flatMap_right _
  have es : (sourcesP qs).Perm (sourcesP ps) := (e.filter _).map _
  obtain ⟨r, hr⟩ := h.rk
  exact ⟨fun p hp => h.ok p (e.mem_iff.mp hp), ew.nodup_iff.mpr h.nd, fun p hp y hy => ew.mem_iff.mpr (h.known p (e.mem_iff.mp hp) y hy), by rw [es.length_eq]; exact h.src, by rw [eb.length_eq]; exact h.box,
    fun x hx y hy => h.ag x (eb.mem_iff.mp hx) y (eb.mem_iff.mp hy), r, fun p hp => hr p (e.mem_iff.mp hp)⟩
theorem NetM.net {ps : List Pt} {os : List Str} {k : Nat} (h : NetM ps k) (hk : k ≤ 4) (hl : ps.length ≤ 16) (ho : OsOk os) (hw : ∀ z ∈ os, z ∈ wiresP ps) : NetOk ps os := by
  obtain ⟨r, hr⟩ := h.rk
  refine ⟨h.ok, hl, h.nd, h.known, ho, hw, Nat.le_trans h.src hk, h.box, h.ag, no_ring r fun z ls hz y hy => ?_⟩
  obtain ⟨p, hp, e⟩ := List.mem_map.mp (lkp_mem hz)
  cases e
  exact hr p hp y hy
/-- parts in another order -/
theorem all2_perm {α β : Type} {R : α → β → Prop} {us vs : List α} (e : vs.Perm us) : ∀ {ps : List β}, All2 R us ps → ∃ qs, qs.Perm ps ∧ All2 R vs qs := by
  have toL : ∀ {us : List α} {ps : List β}, All2 R us ps → ∃ l : List (α × β), us = l.map (·.1) ∧ ps = l.map (·.2) ∧ ∀ x ∈ l, R x.1 x.2 := by
    intro us
    induction us with
    | nil => intro ps h; cases ps with
      | nil => exact ⟨[], rfl, rfl, fun x hx => nomatch hx⟩
      | cons p ps => cases h.1
    | cons u us ih => intro ps h; cases ps with
      | nil => cases h.1
      | cons p ps =>
        obtain ⟨l, e1, e2, e3⟩ := ih (All2.tail h).2
        exact ⟨(u, p) :: l, by rw [e1]; rfl, by rw [e2]; rfl, fun x hx => (List.mem_cons.mp hx).elim (fun z => by rw [z]; exact (All2.tail h).1) (e3 x)⟩
  intro ps h
  obtain ⟨l, rfl, rfl, e3⟩ := toL h
  have : ∃ m : List (α × β), m.Perm l ∧ vs = m.map (·.1) := by
    have go : ∀ {xs ys : List α}, xs.Perm ys → ∀ l : List (α × β), ys = l.map (·.1) → ∃ m : List (α × β), m.Perm l ∧ xs = m.map (·.1) := by
      intro xs ys p
      induction p with
      | nil => intro l e; exact ⟨l, .refl _, e⟩
      | cons x p ih =>
        intro l e
        cases l with
        | nil => cases e
        | cons y l =>
          obtain ⟨h1, h2⟩ := List.cons.inj e
          obtain ⟨m, hm, em⟩ := ih l h2
          exact ⟨y :: m, hm.cons y, by rw [em, h1]; rfl⟩
      | swap x y l' =>
        intro l e
        match l, e with
        | a :: b :: l, e =>
          obtain ⟨h1, h2⟩ := List.cons.inj e
          obtain ⟨h3, h4⟩ := List.cons.inj h2
          exact ⟨b :: a :: l, .swap _ _ _, by rw [h1, h3, h4]; rfl⟩
      | trans p q ih1 ih2 =>
        intro l e
        obtain ⟨m, hm, em⟩ := ih2 l e
        obtain ⟨n, hn, en⟩ := ih1 m em
        exact ⟨n, hn.trans hm, en⟩
    exact go e l rfl
  obtain ⟨m, hm, rfl⟩ := this
  refine ⟨m.map (·.2), hm.map _, by rw [List.length_map, List.length_map], fun i x y hx hy => ?_⟩
  rw [List.getElem?_map] at hx hy
  cases e : m[i]? with
  | none => rw [e] at hx; cases hx
  | some z =>
    rw [e] at hx hy
    cases hx
    cases hy
    exact e3 z (hm.mem_iff.mp (List.mem_of_getElem? e))
/-- what `_law_parts` draws is a net, in any order -/
theorem drawn_net {ps : List Pt} {ws : List Str} {fs : List (Str × Str)} {k : Nat} (hd : ∀ i p, ps[i]? = some p → DrawnAt k ws fs i p) (hl : ps.length = ws.length) (nd : ws.Nodup) (l9 : ws.length ≤ 9) (fsn : ∀ x ∈ fs, ∀ y ∈ fs, x.2 = y.2 → x.1 = y.1) : NetM ps k ∧ wiresP ps = ws := by
  have ew : wiresP ps = ws := by
    apply List.ext_getElem?
    intro i
    rw [List.getElem?_map]
    cases e : ps[i]? with
    | none =>
      have := List.getElem?_eq_none_iff.mp e
      rw [List.getElem?_eq_none (by omega)]
      rfl
    | some p => exact (hd i p e).2.1.symm
  have at_ : ∀ p ∈ ps, ∃ i, ps[i]? = some p ∧ DrawnAt k ws fs i p := fun p hp => by
    obtain ⟨i, hi⟩ := List.getElem?_of_mem hp
    exact ⟨i, hi, hd i p hi⟩
  have tk : ∀ {i : Nat} {z : Str}, z ∈ ws.take i → z ∈ ws := fun h => List.mem_of_mem_take h
  refine ⟨⟨fun p hp => ?_, by rw [ew]; exact nd, fun p hp y hy => ?_, ?_, ?_, fun x hx y hy e => ?_, fun z => ws.idxOf z, fun p hp y hy => ?_⟩, ew⟩
  · obtain ⟨i, hi, ⟨sm, ok⟩, hw, h⟩ := at_ p hp
    rcases h with ⟨_, e⟩ | ⟨_, f⟩
    · exact ⟨ok, sm, by rw [e]; trivial⟩
    · exact ⟨ok, sm, f.nu⟩
  · rw [ew]
    obtain ⟨i, hi, ⟨sm, ok⟩, hw, h⟩ := at_ p hp
    rcases h with ⟨_, e⟩ | ⟨_, f⟩
    · rw [e] at hy
      cases hy
    · exact (f.ends y hy).elim tk id
  · unfold sourcesP
    rw [List.length_map]
    have : ps = ps.take k ++ ps.drop k := (List.take_append_drop k ps).symm
    rw [this, List.filter_append, List.length_append]
    have h0 : (ps.drop k).filter (fun p => decide (kindP p = "source")) = [] := by
      rw [List.filter_eq_nil_iff]
      intro p hp
      obtain ⟨j, hj⟩ := List.getElem?_of_mem hp
      rw [List.getElem?_drop] at hj
      obtain ⟨_, _, h⟩ := hd _ _ hj
      rcases h with ⟨lt, _⟩ | ⟨_, f⟩
      · omega
      · simpa using f.ns
    rw [h0]
    exact Nat.le_trans (Nat.add_le_add_right (List.length_filter_le _ _) _) (by rw [List.length_take]; simp; omega)
  · cases ps with
    | nil => exact Nat.zero_le _
    | cons p r =>
      have h0 : boxP p = [] := by
        obtain ⟨_, _, h⟩ := hd 0 p rfl
        rcases h with ⟨_, e⟩ | ⟨_, f⟩
        · rw [e]
          rfl
        · cases eb : boxP p with
          | nil => rfl
          | cons x xs => exact absurd rfl (f.box x (by rw [eb]; exact List.mem_cons_self)).2
      show (boxP p ++ boxesP r).length ≤ 8
      rw [h0, List.nil_append]
      have := boxesP_len r
      rw [List.length_cons] at hl
      omega
  · have mem : ∀ x ∈ boxesP ps, (x.2.1, x.2.2) ∈ fs := fun x hx => by
      obtain ⟨p, hp, hx⟩ := List.mem_flatMap.mp hx
      obtain ⟨i, hi, _, hw, h⟩ := at_ p hp
      rcases h with ⟨_, e⟩ | ⟨_, f⟩
      · rw [e] at hx
        cases hx
      · exact (f.box x hx).1
    exact fsn _ (mem x hx) _ (mem y hy) e
  · obtain ⟨i, hi, _, hw, h⟩ := at_ p hp
    rcases h with ⟨_, e⟩ | ⟨_, f⟩
    · rw [e] at hy
      cases hy
    · have hy' := f.leads y hy
      obtain ⟨hil, hie⟩ := List.getElem?_eq_some_iff.mp hw
      have e1 : ws.idxOf (Pw p) = i := by rw [← hie]; exact nd.idxOf_getElem i hil
      obtain ⟨j, hj⟩ := List.getElem?_of_mem hy'
      rw [List.getElem?_take] at hj
      split at hj
      · rename_i lt
        obtain ⟨hjl, hje⟩ := List.getElem?_eq_some_iff.mp hj
        have e2 : ws.idxOf y = j := by rw [← hje]; exact nd.idxOf_getElem j hjl
        show ws.idxOf y < ws.idxOf (Pw p)
        rw [e1, e2]
        exact lt
      · cases hj
end
end Un
namespace Un
open PySem L2 TL
section
variable {P : Program} {w : World} {K : PySem.W.Frag} {mg : Str → Option Value} {base : Heap}
/-! ### errors that are raised -/
open XV
def spI0 (C : Addr) (c : Str) : Sp := fun vs H Q _ => ∃ a, vs = [.ref a] ∧ H a = some (exo a C none) ∧ ∀ d H', H d = none → d ≠ a → H' a = some (exo a C (some d)) → H' d = some (exd d [("code", .str c)]) → (∀ b o, H b = some o → b ≠ a → H' b = some o) → Q .non H'
def spI1 (C : Addr) (c f : Str) : Sp := fun vs H Q _ => ∃ a x, vs = [.ref a, x] ∧ H a = some (exo a C none) ∧ ∀ d H', H d = none → d ≠ a → H' a = some (exo a C (some d)) → H' d = some (exd d [(f, x), ("code", .str c)]) → (∀ b o, H b = some o → b ≠ a → H' b = some o) → Q .non H'
abbrev sEInvalidText : Stmt := inClass (top 6) 0
theorem scEInvalidText : FnScope ["self", "word"] ["self", "word"] (defScope sEInvalidText) := ⟨rfl, rfl, rfl, by decide +kernel, rfl, by decide +kernel, by decide +kernel⟩
theorem ok_eInvalidText {f C : Addr} {fd : FuncData} (F : Fun K "__init__" "InvalidText.__init__" sEInvalidText f fd) (T : OexG K C) (n0 : PySem.W.findIn K (.ref C) "code" = some none) (n1 : PySem.W.findIn K (.ref C) "word" = some none) : FnOk P w K mg base CX0 1 f fd ["self", "word"] (spI1 C "InvalidText" "word") := by
  refine F.ok scEInvalidText (fun vs H Q E h => ?_) (fun cdv A outer s H vs Q E hr h => ?_)
  · obtain ⟨a, x, rfl, _⟩ := h
    rfl
  obtain ⟨a, x, rfl, ha, q⟩ := h
  refine ⟨_, pss_cons (ps_ostG (pv 0) pe_str) (pss_one (ps_ostG (pv 0) (pv 1))), ?_⟩
  refine ⟨_, rfl, a, C, rfl, T, n0, .inl ⟨ha, fun d hd nd => ?_⟩⟩
  have na : a ≠ d := Ne.symm nd
  refine ⟨_, rfl, _, rfl, a, C, rfl, T, n1, .inr ⟨d, _, upd_same, by rw [upd_ne nd, upd_same], (by show 1 ≤ 900; decide), ?_⟩⟩
  refine q d _ hd nd (by rw [upd_ne na, upd_same]) upd_same fun b o e nb => ?_
  rw [upd_ne (ne_of_none e hd), upd_ne nb, upd_ne (ne_of_none e hd)]
  exact e
/-- an error class that can be made -/
structure Xr (P : Program) (w : World) (K : PySem.W.Frag) (mg : Str → Option Value) (base : Heap) (C : Addr) (n : Nat) (fI : Addr) (fd : FuncData) (x : Str) (ps : List Str) (sp : Sp) (g : List Value → List Value → List Value) : Prop where
  x : Xm P w K mg base C 1 fI fd x ps sp
  kb : KBn K fd ps (n + 1) [] g (fun vs zs => vs ++ zs)
/-- the way out by an error of class C with the fields fs -/
def XkE (C : Addr) (fs : List (Str × V)) (H : Hp) (E : XK) : Prop := ∀ d H', Same H H' → H d = none → H' d = some (exd d fs) → E (.ref C) (some d) H'
theorem XkE.from {C : Addr} {fs : List (Str × V)} {H H1 : Hp} {E : XK} (h : XkE C fs H E) (s : Same H H1) : XkE C fs H1 E := fun d H' s' hd hd' => h d H' (s.trans s') (s.free hd) hd'
theorem mk_raise1 {X : Cx} {C a : Addr} {c f : Str} {v : V} {H H1 : Hp} {Z : Value → Option Addr → Hp → Prop} (T : OexG X.K C) (hH : X.H_0 = H) (s : Same H H1) (ha : H1 a = none) (z : ∀ d H', Same H1 H' → H1 d = none → H' d = some (exd d [(f, v), ("code", .str c)]) → Z (.ref C) (some d) H') :
    spI1 C c f [.ref a, v] (upd H1 a (exo a C none)) (fun u H3 => u = .non ∧ ∃ a' C' d, V.ref a = .ref a' ∧ H3 a' = some (exo a' C' (some d)) ∧ Fr0 X.H_0 a' ∧ Raises X (.ref C') ∧ Z (.ref C') (some d) (delH H3 a')) E0 := by
  refine ⟨a, v, rfl, upd_same, fun d H' hd nd ha' hd' keep => ⟨rfl, a, C, d, rfl, ha', fr0_none (by rw [hH]; exact s.free ha), raises_own T.exC T.tyC, ?_⟩⟩
  rw [upd_ne nd] at hd
  refine z d (delH H' a) (fun b o hb => ?_) hd (by rw [delH_ne nd]; exact hd')
  have nb : b ≠ a := ne_of_none hb ha
  rw [delH_ne nb]
  exact keep b o (by rw [upd_ne nb]; exact hb) nb
theorem mk_raise0 {X : Cx} {C a : Addr} {c : Str} {H H1 : Hp} {Z : Value → Option Addr → Hp → Prop} (T : OexG X.K C) (hH : X.H_0 = H) (s : Same H H1) (ha : H1 a = none) (z : ∀ d H', Same H1 H' → H1 d = none → H' d = some (exd d [("code", .str c)]) → Z (.ref C) (some d) H') :
    spI0 C c [.ref a] (upd H1 a (exo a C none)) (fun u H3 => u = .non ∧ ∃ a' C' d, V.ref a = .ref a' ∧ H3 a' = some (exo a' C' (some d)) ∧ Fr0 X.H_0 a' ∧ Raises X (.ref C') ∧ Z (.ref C') (some d) (delH H3 a')) E0 := by
  refine ⟨a, rfl, upd_same, fun d H' hd nd ha' hd' keep => ⟨rfl, a, C, d, rfl, ha', fr0_none (by rw [hH]; exact s.free ha), raises_own T.exC T.tyC, ?_⟩⟩
  rw [upd_ne nd] at hd
  refine z d (delH H' a) (fun b o hb => ?_) hd (by rw [delH_ne nd]; exact hd')
  have nb : b ≠ a := ne_of_none hb ha
  rw [delH_ne nb]
  exact keep b o (by rw [upd_ne nb]; exact hb) nb
end
end Un
namespace Un
open PySem L2 TL
section
variable {P : Program} {w : World} {K : PySem.W.Frag} {mg : Str → Option Value} {base : Heap}
open XV
abbrev sField : Stmt := top 69
abbrev sWhy : Stmt := top 66
theorem okE {x qual : Str} {st : Stmt} {f : Addr} {fd : FuncData} {N ps : List Str} {k : Nat} {sp : Addr → Value → Option Addr → Sp} (F : Fun K x qual st f fd) (S : FnScope N ps (defScope st)) (len : ∀ a cls d vs H Q E, sp a cls d vs H Q E → vs.length = ps.length)
    (hb : ∀ (cdv : Value) (A : Around) (outer : List Env) (s : Shared) (H : Hp) (vs : List V) (Q : VK) (E : XK) (p : Addr × Obj) (cls : Value) (d : Option Addr), ExR.Bears (L2H.cxH CX0 P w K mg base N qual (defScope st) f cdv A outer s H E p) p cls d → sp p.1 cls d vs H Q E →
      ∃ t, PSs (L2H.cxH CX0 P w K mg base N qual (defScope st) f cdv A outer s H E p) (defBody st) t ∧ t { nx := fun _ H' => Q .non H', rt := Q } (L2.start N vs) H) : ExR.FnE P w K mg base CX0 (k + 1) f fd ps sp := by
  obtain ⟨oc, od, kV, doc, pm, an, cdv, ct, osl, rfl, lk, hcd⟩ := F.ex
  exact ExR.fn_ofE lk hcd S len fun A outer s H vs Q E p cls d hz hf hr hsp => hb cdv A outer s H vs Q E p cls d ⟨List.mem_singleton.mpr rfl, hz, hf⟩ hsp
def attrsX : List Str := ["code", "word"]
inductive DueOf (fs : List (Str × V)) : Str → List V → Prop where
  | cInvalidText {x : V} : fs.lookup ("word" : Str) = some x → DueOf fs "InvalidText" [x]
structure ErrAt (K : PySem.W.Frag) (H : Hp) (cls : Value) (d : Option Addr) (code : Str) (due : List V) : Prop where
  ex : ∃ C dd fs, cls = .ref C ∧ XfC K C ∧ (∀ n ∈ attrsX, PySem.W.findIn K (.ref C) n = some none) ∧ d = some dd ∧ H dd = some (exd dd fs) ∧ fs.lookup ("code" : Str) = some (.str code) ∧ DueOf fs code due
theorem ErrAt.same {H H' : Hp} {cls : Value} {d : Option Addr} {code : Str} {due : List V} (h : ErrAt K H cls d code due) (s : Same H H') : ErrAt K H' cls d code due := by
  obtain ⟨C, dd, fs, h1, h2, h3, h4, h5, h6⟩ := h.ex
  exact ⟨C, dd, fs, h1, h2, h3, h4, s _ _ h5, h6⟩
def spFieldE (K : PySem.W.Frag) (a : Addr) (cls : Value) (d : Option Addr) : Sp := fun vs H Q _ => ∃ (code : Str) (due : List V), vs = [.ref a] ∧ ErrAt K H cls d code due ∧ ∀ t H', Same H H' → H t = none → H' t = some (.tup due) → Q (.ref t) H'
theorem scField : FnScope ["_law_e", "_law_code"] ["_law_e"] (defScope sField) := ⟨rfl, rfl, rfl, by decide +kernel, rfl, by decide +kernel, by decide +kernel⟩
theorem ok_fieldE {f : Addr} {fd : FuncData} (F : Fun K "_law_field" "_law_field" sField f fd) : ExR.FnE P w K mg base CX0 1 f fd ["_law_e"] (spFieldE K) := by
  refine okE F scField (fun a cls d vs H Q E h => ?_) (fun cdv A outer s H vs Q E p cls d B h => ?_)
  · obtain ⟨code, due, rfl, _⟩ := h
    rfl
  obtain ⟨code, due, rfl, er, q⟩ := h
  obtain ⟨C, dd, fs, hcl, hxf, hat, hd, hdd, hc, hdue⟩ := er.ex
  refine ⟨_, (pss_cons (ps_set (i := 1) scField.nd rfl (by first | exact Or.inl rfl | exact Or.inr rfl) (ExR.pe_xe B (pv 0)))
 (pss_cons (ps_if (pt_cmpR op_in_seq (pv 1) (pe_tup (pa_cons pe_str (pa_cons pe_str (pa_cons pe_str pa_nil)))) (by rfl))
 (pss_one (ps_ret (pe_tup (pa_cons (ExR.pe_xe B (pv 0)) pa_nil))))
 pss_nil)
 (pss_cons (ps_if (pt_cmpR op_in_seq (pv 1) (pe_tup (pa_cons pe_str (pa_cons pe_str (pa_cons pe_str (pa_cons pe_str (pa_cons pe_str (pa_cons pe_str (pa_cons pe_str pa_nil)))))))) (by rfl))
 (pss_one (ps_ret (pe_tup (pa_cons (ExR.pe_xe B (pv 0)) pa_nil))))
 pss_nil)
 (pss_cons (ps_if (pt_cmpR op_in_seq (pv 1) (pe_tup (pa_cons pe_str (pa_cons pe_str pa_nil))) (by rfl))
 (pss_one (ps_ret (pe_tup (pa_cons (pe_ifExp (pt_cmpR op_eq (pv 1) pe_str (nomark _)) (ExR.pe_xe B (pv 0)) (ExR.pe_xe B (pv 0))) pa_nil))))
 pss_nil)
 (pss_cons (ps_if (pt_cmpR op_in_seq (pv 1) (pe_tup (pa_cons pe_str (pa_cons pe_str (pa_cons pe_str pa_nil)))) (by rfl))
 (pss_one (ps_ret (pe_tup (pa_cons (ExR.pe_xe B (pv 0)) pa_nil))))
 pss_nil)
 (pss_cons (ps_if (pt_cmpR op_in_seq (pv 1) (pe_tup (pa_cons pe_str (pa_cons pe_str pa_nil))) (by rfl))
 (pss_one (ps_ret (pe_tup (pa_cons (ExR.pe_xe B (pv 0)) pa_nil))))
 pss_nil)
 (pss_cons (ps_if (pt_cmpR op_in_seq (pv 1) (pe_tup (pa_cons pe_str (pa_cons pe_str pa_nil))) (by rfl))
 (pss_one (ps_ret (pe_ifExp (pt_cmpR op_eq (pv 1) pe_str (nomark _)) (pe_tup (pa_cons (ExR.pe_xe B (pv 0)) (pa_cons (ExR.pe_xe B (pv 0)) pa_nil))) (pe_tup (pa_cons (ExR.pe_xe B (pv 0)) (pa_cons (ExR.pe_xe B (pv 0)) pa_nil))))))
 pss_nil)
 (pss_cons (ps_if (pt_cmpR op_in_seq (pv 1) (pe_tup (pa_cons pe_str (pa_cons pe_str pa_nil))) (by rfl))
 (pss_one (ps_ret (pe_tup (pa_cons (pe_ifExp (pt_cmpR op_eq (pv 1) pe_str (nomark _)) (ExR.pe_xe B (pv 0)) (ExR.pe_xe B (pv 0))) pa_nil))))
 pss_nil)
 (pss_cons (ps_if (pt_cmpR op_in_seq (pv 1) (pe_tup (pa_cons pe_str (pa_cons pe_str pa_nil))) (by rfl))
 (pss_one (ps_ret (pe_tup (pa_cons (pe_ifExp (pt_cmpR op_eq (pv 1) pe_str (nomark _)) (ExR.pe_xe B (pv 0)) (ExR.pe_xe B (pv 0))) pa_nil))))
 pss_nil)
 (pss_one (ps_ret (pe_tup pa_nil)))))))))))), ?_⟩
  refine ⟨_, rfl, C, dd, fs, _, rfl, hcl, hxf, hat _ (by decide), hd, hdd, hc, ?_⟩
  have fin : ∀ {H1 H2 : Hp} {t : Addr}, Same H H1 → H1 t = none → H2 = upd H1 t (.tup due) → Q (.ref t) H2 := fun s ht e => q _ _ (by rw [e]; exact s.trans (same_upd ht _)) (s.free ht) (by rw [e]; exact upd_same)
  cases hdue with
  | cInvalidText hx =>
    refine ⟨_, rfl, (by show 3 ≤ sizeLine; decide), fun t0 q0 => ⟨t0, _, rfl, .inr (SqT.of upd_same), rfl, rfl, _, rfl, ?_⟩⟩
    have s0 := same_upd q0 (.tup [V.str "InvalidName", V.str "InvalidNumber", V.str "InvalidLimit"])
    generalize (upd H t0 (.tup [V.str "InvalidName", V.str "InvalidNumber", V.str "InvalidLimit"])) = G0 at s0 ⊢
    rw [show inV (V.str "InvalidText") [V.str "InvalidName", V.str "InvalidNumber", V.str "InvalidLimit"] = false by decide +kernel]
    refine iteF ?_
    refine ⟨_, rfl, (by show 7 ≤ sizeLine; decide), fun t1 q1 => ⟨t1, _, rfl, .inr (SqT.of upd_same), rfl, rfl, _, rfl, ?_⟩⟩
    have s1 := s0.trans (same_upd q1 (.tup [V.str "InvalidPart", V.str "InvalidOuts", V.str "InvalidUse", V.str "InvalidSheet", V.str "InvalidFact", V.str "InvalidDeed", V.str "InvalidCommand"]))
    generalize (upd G0 t1 (.tup [V.str "InvalidPart", V.str "InvalidOuts", V.str "InvalidUse", V.str "InvalidSheet", V.str "InvalidFact", V.str "InvalidDeed", V.str "InvalidCommand"])) = G1 at s1 ⊢
    rw [show inV (V.str "InvalidText") [V.str "InvalidPart", V.str "InvalidOuts", V.str "InvalidUse", V.str "InvalidSheet", V.str "InvalidFact", V.str "InvalidDeed", V.str "InvalidCommand"] = false by decide +kernel]
    refine iteF ?_
    refine ⟨_, rfl, (by show 2 ≤ sizeLine; decide), fun t2 q2 => ⟨t2, _, rfl, .inr (SqT.of upd_same), rfl, rfl, _, rfl, ?_⟩⟩
    have s2 := s1.trans (same_upd q2 (.tup [V.str "InvalidText", V.str "InvalidPage"]))
    generalize (upd G1 t2 (.tup [V.str "InvalidText", V.str "InvalidPage"])) = G2 at s2 ⊢
    rw [show inV (V.str "InvalidText") [V.str "InvalidText", V.str "InvalidPage"] = true by decide +kernel]
    refine iteT ?_
    exact ⟨_, rfl, rfl, _, rfl, iteT ⟨_, rfl, C, dd, fs, _, rfl, hcl, hxf, hat _ (by decide), hd, s2 _ _ hdd, hx, (by show 1 ≤ sizeLine; decide), fun t ht => fin s2 ht rfl⟩⟩
end
end Un
namespace Un
open PySem L2 TL
section
variable {P : Program} {w : World} {K : PySem.W.Frag} {mg : Str → Option Value} {base : Heap}
abbrev whyN : List Str := ["_law_ask", "_law_e"]
theorem scWhy : FnScope whyN ["_law_ask"] (defScope sWhy) := ⟨rfl, rfl, rfl, by decide +kernel, rfl, by decide +kernel, by decide +kernel⟩
/-- what an error must be for `_law_why` to tell it -/
def EWhy (K : PySem.W.Frag) (cs : List Value) (Q : VK) : XK := fun cls d H' => ∃ code due, ErrAt K H' cls d code due ∧ PySem.W.exmAny K cls cs = some true ∧
  ∀ (t t1 : Addr) (H'' : Hp), Same H' H'' → H' t = none → H'' t1 = some (.tup due) → H'' t = some (.tup [.str code, .ref t1]) → Q (.ref t) H''
def TWhy (K : PySem.W.Frag) (cs : List Value) : (XK → Hp → VK → Prop) → Hp → VK → Prop := fun tl H Q => tl (EWhy K cs Q) H fun v H1 => ([.str "", v] : List V).length ≤ sizeLine ∧ ∀ t, H1 t = none → Q (.ref t) (upd H1 t (.tup [.str "", v]))
theorem why_gives {X : Cx} {g ff U M NL : Addr} {cdg : Value} {q : Str} {k : Nat} {fd : FuncData} (hr : Room (k + 1) X.A) (GF : ExR.FnE X.prog X.w X.K X.mg X.base CX0 k ff fd ["_law_e"] (spFieldE X.K)) (bF : Binds X.K fd ["_law_e"] []) (kF : PySem.W.keepIn X.K (.ref ff) = true) (mF : X.mg "_law_field" = some (.ref ff))
    (mU : X.mg "UnopenedError" = some (.ref U)) (mM : X.mg "Missing" = some (.ref M)) (mN : X.mg "NothingLeft" = some (.ref NL)) :
    LamX.GivesTo X whyN "_law_why" (defScope sWhy) g cdg (defBody sWhy) "_law_ask" q (TWhy X.K [.ref U, .ref M, .ref NL]) := by
  intro f c' s H Q tl act hc h
  let Y : Cx := (cxOf C8.CX0 X.prog X.w X.K X.mg X.base whyN "_law_why" (defScope sWhy) g cdg X.A X.stack s H C8.E0).nox
  have hrY : L2H.RoomH k Y.A := L2H.roomH_of (hr.deeper _)
  refine ⟨_, pss_one (ExR.ps_try_as3 (X := Y) (i := 1) (c1 := .ref U) (c2 := .ref M) (c3 := .ref NL)
      (tb := fun W D σ H => ∃ Ech : XK, (∀ cls d σ' H', Ech cls d H' → σ'.length = 2 → W cls d σ' H') ∧ tRet (tTup (tCons (tC (.str "")) (tCons (fun σZ HZ Q => σZ[0]? = some (some (.ref f)) ∧ HZ c' = some (LamX.CodeO c' q) ∧ tl Ech HZ Q) tNil))) D σ H)
      (ts := fun a cls d => tRet (tTup (tCons (ExR.tXe X.K a cls d "code" (tVar 1)) (tCons (fun σ H Q => tCons (tVar 1) tNil σ H fun vs H1 => spFieldE X.K a cls d vs H1 Q E0) tNil))))
      rfl rfl scWhy.nd rfl rfl ⟨by rfl, by decide, .inl mU⟩ ⟨by rfl, by decide, .inl mM⟩ ⟨by rfl, by decide, .inl mN⟩ LamX.takes0 (fun W pn xe tk _ => ?_) (fun a oe cls d pn hz hf => ?_)), ?_⟩
  · refine ⟨fun pins s' σ H' D I h' => ?_⟩
    obtain ⟨Ech, hW, h1⟩ := h'
    have tk' : Takes (Y.tr pn xe) (fun cls d σ H => σ.length = 2 → W cls d σ H) := fun u s' ⟨a, B, sI, pins, σ, H, cls, d, e, I, nb, up, sky, na, os, ag, w⟩ => tk u s' ⟨a, B, sI, pins, σ, H, cls, d, e, I, nb, up, sky, na, os, ag, w I.len⟩
    exact (pss_one (ps_ret (pe_tup (pa_cons pe_str (pa_cons (act (fun cls d σ H => σ.length = 2 → W cls d σ H) pn xe Ech _ _ tk' hW) pa_nil))))).run pins s' σ H' D I h1
  · have B : ExR.Bears (Y.suite a ((a, oe) :: pn)) (a, oe) cls d := ⟨List.mem_cons_self, hz, hf⟩
    exact pss_one (ps_ret (pe_tup (pa_cons (ExR.pe_xe B (pv 1)) (pa_cons (ExR.pe_callE (X := Y.suite a ((a, oe) :: pn)) GF (by exact ⟨hrY.dp, hrY.un⟩) B (by rfl) mF kF bF pass0 (pa_cons (pv 1) pa_nil)) pa_nil))))
  · refine ⟨EWhy X.K [.ref U, .ref M, .ref NL] Q, fun cls d σ' H' he hl => ?_, rfl, hc, h⟩
    obtain ⟨code, due, er, hx, qq⟩ := he
    refine ⟨true, hx, fun _ a ha => ?_, fun z => nomatch z⟩
    obtain ⟨s0, s1, rfl⟩ : ∃ s0 s1, σ' = [s0, s1] := by
      match σ', hl with
      | [s0, s1], _ => exact ⟨s0, s1, rfl⟩
    obtain ⟨C, dd, fs, hcl, hxf, hat, hd, hdd, hcode, hdue⟩ := er.ex
    refine ⟨_, rfl, C, dd, fs, _, rfl, hcl, hxf, hat _ (by decide), hd, hdd, hcode, _, rfl, code, due, rfl, er, fun t1 H1 s1' h0 h1 => ⟨(by show 2 ≤ sizeLine; decide), fun t ht => ?_⟩⟩
    have nt : t1 ≠ t := ne_of_none h1 ht
    exact qq t t1 _ (s1'.trans (same_upd ht _)) (s1'.free ht) (by rw [upd_ne nt]; exact h1) upd_same
end
end Un
namespace Un
open PySem L2 TL
section
variable {P : Program} {w : World} {K : PySem.W.Frag} {mg : Str → Option Value} {base : Heap}
/-! ### reading a text word by word: how far it goes -/
/-- the number that a word writes, from -99 to 100 -/
def nums : List Int := (List.range 200).map fun k => ((k : Nat) : Int) - 99
def numV (z : Str) : Option Int := nums.find? fun n => decide (dec n = z)
theorem dec_inj {m n : Int} (m0 : -99 ≤ m) (m1 : m ≤ 100) (n0 : -99 ≤ n) (n1 : n ≤ 100) (h : dec m = dec n) : m = n := by
  have all : ∀ k : Fin 200, PySem.intText? (dec ((k.val : Int) - 99)) = some ((k.val : Int) - 99) := by decide +kernel
  have at_ : ∀ i : Int, -99 ≤ i → i ≤ 100 → PySem.intText? (dec i) = some i := fun i h0 h1 => by
    have e : i = (((⟨(i + 99).toNat, by omega⟩ : Fin 200).val : Nat) : Int) - 99 := by
      show i = ((i + 99).toNat : Int) - 99
      omega
    rw [e]
    exact all _
  have h1 := at_ m m0 m1
  rw [h, at_ n n0 n1] at h1
  exact (Option.some.inj h1).symm
theorem nums_mem {n : Int} : n ∈ nums ↔ -99 ≤ n ∧ n ≤ 100 := by
  unfold nums
  rw [List.mem_map]
  constructor
  · rintro ⟨k, hk, rfl⟩
    have := List.mem_range.mp hk
    omega
  · rintro ⟨h0, h1⟩
    exact ⟨(n + 99).toNat, List.mem_range.mpr (by omega), by omega⟩
theorem numV_some {z : Str} {n : Int} (h : numV z = some n) : z = dec n ∧ -99 ≤ n ∧ n ≤ 100 := by
  have h1 := List.find?_some h
  have h2 := List.mem_of_find?_eq_some h
  exact ⟨(of_decide_eq_true h1).symm, nums_mem.mp h2⟩
theorem numV_dec {n : Int} (h0 : -99 ≤ n) (h1 : n ≤ 100) : numV (dec n) = some n := by
  cases e : numV (dec n) with
  | none =>
    have := List.find?_eq_none.mp e n (nums_mem.mpr ⟨h0, h1⟩)
    exact absurd (decide_eq_true rfl) this
  | some m =>
    obtain ⟨h, m0, m1⟩ := numV_some e
    rw [dec_inj m0 m1 h0 h1 h.symm]
def inB (lo hi : Int) (z : Str) : Bool := match numV z with
  | some n => decide (lo ≤ n) && decide (n ≤ hi)
  | none => false
theorem inB_iff {lo hi : Int} {z : Str} (hh : hi ≤ 100) (hl : -99 ≤ lo) : inB lo hi z = true ↔ ∃ n, lo ≤ n ∧ n ≤ hi ∧ z = dec n := by
  unfold inB
  constructor
  · intro h
    cases e : numV z with
    | none => rw [e] at h; cases h
    | some n =>
      rw [e] at h
      have h' := Bool.and_eq_true_iff.mp h
      exact ⟨n, of_decide_eq_true h'.1, of_decide_eq_true h'.2, (numV_some e).1⟩
  · rintro ⟨n, h0, h1, rfl⟩
    rw [numV_dec (by omega) (by omega)]
    simp [h0, h1]
theorem nameB_nm {z : Str} (h : nameB z = true) : IsNm z := by
  unfold nameB at h
  have h1 := Bool.and_eq_true_iff.mp h
  have h2 := Bool.and_eq_true_iff.mp h1.1
  refine ⟨?_, by have := of_decide_eq_true h2.1; omega, by have := of_decide_eq_true h2.2; omega⟩
  have := h1.2
  rw [lowB_tl, List.all_eq_true] at this
  exact fun c hc => of_decide_eq_true (this c hc)
/-- how many words were read and what follows, or the index of the wrong one -/
inductive RR where
  | ok (n : Nat) (r : List Str)
  | er (n : Nat)
def RR.up (m : Nat) : RR → RR
  | .ok n r => .ok (m + n) r
  | .er n => .er (m + n)
def RR.bind (x : RR) (f : List Str → RR) : RR := match x with
  | .ok n r => (f r).up n
  | .er n => .er n
theorem RR.up_up (m n : Nat) (x : RR) : (x.up n).up m = x.up (m + n) := by
  cases x with
  | ok k r => exact congrArg (RR.ok · r) (by omega)
  | er k => exact congrArg RR.er (by omega)
theorem RR.up_zero (x : RR) : x.up 0 = x := by
  cases x with
  | ok k r => exact congrArg (RR.ok · r) (by omega)
  | er k => exact congrArg RR.er (by omega)
theorem RR.up_bind (m : Nat) (x : RR) (f : List Str → RR) : (x.bind f).up m = (x.up m).bind f := by
  cases x with
  | ok k r => exact RR.up_up m k (f r)
  | er k => rfl
def pName : List Str → RR
  | z :: R => if nameB z = true then .ok 1 R else .er 0
  | [] => .er 0
def pNum (lo hi : Int) : List Str → RR
  | z :: R => if inB lo hi z = true then .ok 1 R else .er 0
  | [] => .er 0
def pLate : List Str → RR
  | z :: R => if z = "late" then (pNum 1 4 R).up 1 else .ok 0 (z :: R)
  | [] => .ok 0 []
def pTerm (R : List Str) : RR := (pNum (-99) 99 R).bind fun R1 => (pName R1).bind pLate
def pMore : Nat → List Str → RR
  | 0, R => .ok 0 R
  | n + 1, z :: R => if z = "," then ((pTerm R).bind (pMore n)).up 1 else .ok 0 (z :: R)
  | _ + 1, [] => .ok 0 []
def pTerms : List Str → RR
  | z :: R => if z = ";" then .ok 0 (z :: R) else (pTerm (z :: R)).bind (pMore 5)
  | [] => .er 0
def pNames : Nat → List Str → Nat
  | n + 1, z :: R => if nameB z = true then pNames n R + 1 else 0
  | _, _ => 0
def pTail (k : Str) (R : List Str) : RR :=
  if k = "source" then .ok 0 R
  else if k = "mix" then pTerms R
  else (pName R).bind fun R1 => if k = "use" then .ok (pNames 4 R1) (R1.drop (pNames 4 R1))
    else (pName R1).bind fun R2 => if k = "pair" then pName R2 else .ok 0 R2
abbrev kinds7' : List Str := ["source", "mix", "plain", "odd", "keep", "pair", "use"]
def pKind : List Str → RR
  | k :: R => if k ∈ kinds7' then (pTail k R).up 1 else .er 0
  | [] => .er 0
def pPart (R : List Str) : RR := (pName R).bind pKind
def pSemi (f : List Str → RR) : List Str → RR
  | z :: R => if z = ";" then (f R).up 1 else .er 0
  | [] => .er 0
def pEnd (R : List Str) : RR := (pName R).bind fun R1 => if R1.drop (pNames 3 R1) = [] then .ok (pNames 3 R1) [] else .er (pNames 3 R1)
def pNet : Nat → List Str → RR
  | 0, _ => .er 0
  | n + 1, z :: R => if z = ">" then (pEnd R).up 1 else (pPart (z :: R)).bind (pSemi (pNet n))
  | _ + 1, [] => .er 0
/-- what follows is the list without the words read -/
def RR.good (R : List Str) (x : RR) : Prop := match x with
  | .ok n r => n ≤ R.length ∧ r = R.drop n
  | .er n => n ≤ R.length
theorem RR.good.bind {R : List Str} {x : RR} {f : List Str → RR} (h : x.good R) (g : ∀ r, (f r).good r) : (x.bind f).good R := by
  cases x with
  | er n => exact h
  | ok n r =>
    obtain ⟨h1, rfl⟩ := h
    have := g (R.drop n)
    show ((f (R.drop n)).up n).good R
    cases e : f (R.drop n) with
    | er m =>
      rw [e] at this
      have t : m ≤ (R.drop n).length := this
      rw [List.length_drop] at t
      show n + m ≤ R.length
      omega
    | ok m r =>
      rw [e] at this
      obtain ⟨t1, t2⟩ := (show m ≤ (R.drop n).length ∧ r = (R.drop n).drop m from this)
      rw [List.length_drop] at t1
      exact ⟨by omega, by rw [t2, List.drop_drop]⟩
theorem RR.good.cons {z : Str} {R : List Str} {x : RR} (h : x.good R) : (x.up 1).good (z :: R) := by
  cases x with
  | er n => show 1 + n ≤ R.length + 1; have : n ≤ R.length := h; omega
  | ok n r =>
    obtain ⟨h1, h2⟩ := (show n ≤ R.length ∧ r = R.drop n from h)
    exact ⟨by show 1 + n ≤ R.length + 1; omega, by rw [h2, Nat.add_comm]; rfl⟩
theorem good0 (R : List Str) : (RR.ok 0 R).good R := ⟨Nat.zero_le _, rfl⟩
theorem goodE (R : List Str) : (RR.er 0).good R := Nat.zero_le _
theorem pName_good : ∀ R, (pName R).good R
  | z :: R => by
    show (if nameB z = true then RR.ok 1 R else .er 0).good (z :: R)
    split
    · exact ⟨by show 1 ≤ R.length + 1; omega, rfl⟩
    · exact goodE _
  | [] => goodE _
theorem pNum_good (lo hi : Int) : ∀ R, (pNum lo hi R).good R
  | z :: R => by
    show (if inB lo hi z = true then RR.ok 1 R else .er 0).good (z :: R)
    split
    · exact ⟨by show 1 ≤ R.length + 1; omega, rfl⟩
    · exact goodE _
  | [] => goodE _
theorem pLate_good : ∀ R, (pLate R).good R
  | z :: R => by
    show (if z = "late" then (pNum 1 4 R).up 1 else .ok 0 (z :: R)).good (z :: R)
    split
    · exact (pNum_good 1 4 R).cons
    · exact good0 _
  | [] => good0 _
theorem pTerm_good (R : List Str) : (pTerm R).good R := (pNum_good _ _ R).bind fun R1 => (pName_good R1).bind pLate_good
theorem pMore_good : ∀ n R, (pMore n R).good R
  | 0, R => good0 R
  | n + 1, z :: R => by
    show (if z = "," then ((pTerm R).bind (pMore n)).up 1 else .ok 0 (z :: R)).good (z :: R)
    split
    · exact ((pTerm_good R).bind (pMore_good n)).cons
    · exact good0 _
  | _ + 1, [] => good0 _
theorem pTerms_good : ∀ R, (pTerms R).good R
  | z :: R => by
    show (if z = ";" then RR.ok 0 (z :: R) else (pTerm (z :: R)).bind (pMore 5)).good (z :: R)
    split
    · exact good0 _
    · exact (pTerm_good _).bind (pMore_good 5)
  | [] => goodE _
theorem pNames_le : ∀ n R, pNames n R ≤ R.length
  | 0, R => by cases R <;> exact Nat.zero_le _
  | n + 1, z :: R => by
    show (if nameB z = true then pNames n R + 1 else 0) ≤ R.length + 1
    have := pNames_le n R
    split
    · omega
    · exact Nat.zero_le _
  | _ + 1, [] => Nat.le_refl _
theorem pTail_good (k : Str) (R : List Str) : (pTail k R).good R := by
  unfold pTail
  split
  · exact good0 _
  · split
    · exact pTerms_good R
    · refine (pName_good R).bind fun R1 => ?_
      split
      · exact ⟨pNames_le 4 R1, rfl⟩
      · refine (pName_good R1).bind fun R2 => ?_
        split
        · exact pName_good R2
        · exact good0 _
theorem pKind_good : ∀ R, (pKind R).good R
  | k :: R => by
    show (if k ∈ kinds7' then (pTail k R).up 1 else .er 0).good (k :: R)
    split
    · exact (pTail_good k R).cons
    · exact goodE _
  | [] => goodE _
theorem pPart_good (R : List Str) : (pPart R).good R := (pName_good R).bind pKind_good
/-- a part has three words at least, its semicolon among them -/
theorem pPart_one {R r : List Str} {n : Nat} (h : pPart R = .ok n r) : 1 ≤ n := by
  cases R with
  | nil => cases h
  | cons z R =>
    have h : (if nameB z = true then RR.ok 1 R else .er 0).bind pKind = .ok n r := h
    split at h
    · have h : (pKind R).up 1 = .ok n r := h
      cases e : pKind R with
      | er m => rw [e] at h; cases h
      | ok m s =>
        rw [e] at h
        cases h
        omega
    · cases h
end
end Un
namespace Un
open PySem L2 TL
section
variable {P : Program} {w : World} {K : PySem.W.Frag} {mg : Str → Option Value} {base : Heap}
/-! ### what was read to its end was a net's text -/
theorem RR.bind_ok {x : RR} {f : List Str → RR} {n : Nat} {r : List Str} (h : x.bind f = .ok n r) : ∃ m s k, x = .ok m s ∧ f s = .ok k r ∧ n = m + k := by
  cases x with
  | er m => cases h
  | ok m s =>
    have h : (f s).up m = .ok n r := h
    cases e : f s with
    | er k => rw [e] at h; cases h
    | ok k t =>
      rw [e] at h
      cases h
      exact ⟨m, s, k, rfl, e, rfl⟩
theorem RR.up_ok {x : RR} {m n : Nat} {r : List Str} (h : x.up m = .ok n r) : ∃ k, x = .ok k r ∧ n = m + k := by
  cases x with
  | er k => cases h
  | ok k t => cases h; exact ⟨k, rfl, rfl⟩
theorem pName_ok {R r : List Str} {n : Nat} (h : pName R = .ok n r) : n = 1 ∧ ∃ z, IsNm z ∧ R = z :: r := by
  cases R with
  | nil => cases h
  | cons z R =>
    have h : (if nameB z = true then RR.ok 1 R else .er 0) = .ok n r := h
    split at h
    · rename_i hz
      cases h
      exact ⟨rfl, z, nameB_nm hz, rfl⟩
    · cases h
theorem pNum_ok {lo hi : Int} {R r : List Str} {n : Nat} (hl : -99 ≤ lo) (hh : hi ≤ 100) (h : pNum lo hi R = .ok n r) : n = 1 ∧ ∃ m, lo ≤ m ∧ m ≤ hi ∧ R = dec m :: r := by
  cases R with
  | nil => cases h
  | cons z R =>
    have h : (if inB lo hi z = true then RR.ok 1 R else .er 0) = .ok n r := h
    split at h
    · rename_i hz
      cases h
      obtain ⟨m, h0, h1, rfl⟩ := (inB_iff hh hl).mp hz
      exact ⟨rfl, m, h0, h1, rfl⟩
    · cases h
theorem pLate_ok {R r : List Str} {n : Nat} (h : pLate R = .ok n r) : ∃ d : Int, 0 ≤ d ∧ d ≤ 4 ∧ R = (if d = 0 then [] else [("late" : Str), dec d]) ++ r := by
  cases R with
  | nil => cases h; exact ⟨0, by decide, by decide, rfl⟩
  | cons z R =>
    have h : (if z = "late" then (pNum 1 4 R).up 1 else .ok 0 (z :: R)) = .ok n r := h
    split at h
    · rename_i hz
      obtain ⟨k, h, _⟩ := RR.up_ok h
      obtain ⟨_, m, h0, h1, rfl⟩ := pNum_ok (by decide) (by decide) h
      refine ⟨m, by omega, h1, ?_⟩
      rw [if_neg (by omega), hz]
      rfl
    · cases h
      exact ⟨0, by decide, by decide, rfl⟩
theorem pTerm_ok {R r : List Str} {n : Nat} (h : pTerm R = .ok n r) : ∃ t : Tm, SmT t ∧ IsNm t.a ∧ R = bare t ++ r := by
  obtain ⟨_, s, _, h1, h2, _⟩ := RR.bind_ok h
  obtain ⟨_, m, m0, m1, rfl⟩ := pNum_ok (by decide) (by decide) h1
  obtain ⟨_, s2, _, h3, h4, _⟩ := RR.bind_ok h2
  obtain ⟨_, z, nz, rfl⟩ := pName_ok h3
  obtain ⟨d, d0, d1, rfl⟩ := pLate_ok h4
  exact ⟨⟨m, d, z⟩, ⟨m0, m1, d0, d1, by have := nz.l4; show z.length ≤ 10; omega⟩, nz, rfl⟩
theorem pMore_ok : ∀ {n m : Nat} {R r : List Str}, pMore n R = .ok m r → ∃ ts : List Tm, ts.length ≤ n ∧ (∀ t ∈ ts, SmT t ∧ IsNm t.a) ∧ R = commaW ts ++ r
  | 0, m, R, r, h => by
    cases h
    exact ⟨[], Nat.le_refl _, (fun t ht => (nomatch ht)), rfl⟩
  | n + 1, m, [], r, h => by
    cases h
    exact ⟨[], Nat.zero_le _, (fun t ht => (nomatch ht)), rfl⟩
  | n + 1, m, z :: R, r, h => by
    have h : (if z = "," then ((pTerm R).bind (pMore n)).up 1 else .ok 0 (z :: R)) = .ok m r := h
    split at h
    · rename_i hz
      obtain ⟨k, h, _⟩ := RR.up_ok h
      obtain ⟨_, s, _, h1, h2, _⟩ := RR.bind_ok h
      obtain ⟨t, st, nt, rfl⟩ := pTerm_ok h1
      obtain ⟨ts, tl, tok, rfl⟩ := pMore_ok h2
      refine ⟨t :: ts, Nat.succ_le_succ tl, fun x hx => ?_, ?_⟩
      · rcases List.mem_cons.mp hx with e | hx
        · rw [e]; exact ⟨st, nt⟩
        · exact tok x hx
      · rw [hz]
        show _ = ("," : Str) :: (bare t ++ commaW ts) ++ r
        rw [List.cons_append, List.append_assoc]
    · cases h
      exact ⟨[], Nat.zero_le _, (fun t ht => (nomatch ht)), rfl⟩
theorem pTerms_ok {R r : List Str} {n : Nat} (h : pTerms R = .ok n r) : ∃ ts : List Tm, ts.length ≤ 6 ∧ (∀ t ∈ ts, SmT t ∧ IsNm t.a) ∧ R = tmsW ts ts.length ++ r := by
  cases R with
  | nil => cases h
  | cons z R =>
    have h : (if z = ";" then RR.ok 0 (z :: R) else (pTerm (z :: R)).bind (pMore 5)) = .ok n r := h
    split at h
    · cases h
      exact ⟨[], Nat.zero_le _, (fun t ht => (nomatch ht)), rfl⟩
    · obtain ⟨_, s, _, h1, h2, _⟩ := RR.bind_ok h
      obtain ⟨t, st, nt, e⟩ := pTerm_ok h1
      obtain ⟨ts, tl, tok, rfl⟩ := pMore_ok h2
      refine ⟨t :: ts, Nat.succ_le_succ tl, fun x hx => ?_, ?_⟩
      · rcases List.mem_cons.mp hx with e | hx
        · rw [e]; exact ⟨st, nt⟩
        · exact tok x hx
      · rw [tmsW_cons, e, List.append_assoc]
theorem pNames_nm : ∀ {n : Nat} {R : List Str}, (∀ z ∈ R.take (pNames n R), IsNm z) ∧ pNames n R ≤ n
  | 0, R => by
    cases R <;> exact ⟨(fun z hz => (nomatch hz)), Nat.le_refl _⟩
  | n + 1, [] => ⟨(fun z hz => (nomatch hz)), Nat.zero_le _⟩
  | n + 1, z :: R => by
    obtain ⟨h1, h2⟩ := pNames_nm (n := n) (R := R)
    have e : pNames (n + 1) (z :: R) = if nameB z = true then pNames n R + 1 else 0 := rfl
    rw [e]
    split
    · rename_i hz
      refine ⟨fun y hy => ?_, by omega⟩
      rcases List.mem_cons.mp (show y ∈ z :: R.take (pNames n R) from hy) with e | hy
      · rw [e]; exact nameB_nm hz
      · exact h1 y hy
    · exact ⟨fun y hy => (nomatch hy), Nat.zero_le _⟩
theorem kind7 {k : Str} (h : k ∈ kinds7') : k = "source" ∨ k = "mix" ∨ k = "use" ∨ k = "pair" ∨ k = "plain" ∨ k = "odd" ∨ k = "keep" := by
  simp only [kinds7', List.mem_cons, List.not_mem_nil, or_false] at h
  rcases h with h | h | h | h | h | h | h <;> simp [h]
theorem pPart_ok {R r : List Str} {n : Nat} (h : pPart R = .ok n r) : ∃ p : Pt, OkP p ∧ SmP p ∧ R = ptW p ++ r := by
  obtain ⟨_, s, _, h1, h2, _⟩ := RR.bind_ok h
  obtain ⟨_, w, nw, rfl⟩ := pName_ok h1
  have w10 : w.length ≤ 10 := by have := nw.l4; omega
  cases s with
  | nil => cases h2
  | cons k s =>
    have h2 : (if k ∈ kinds7' then (pTail k s).up 1 else .er 0) = .ok _ r := h2
    split at h2
    case isFalse => cases h2
    rename_i hk
    obtain ⟨_, h3, _⟩ := RR.up_ok h2
    have kl : k.length ≤ 10 := by
      rcases kind7 hk with e | e | e | e | e | e | e <;> rw [e] <;> decide +kernel
    unfold pTail at h3
    split at h3
    · rename_i e
      cases h3
      refine ⟨.flat "source" w [], ⟨nw, .inl ⟨rfl, rfl⟩⟩, ⟨by decide +kernel, by decide +kernel, by decide +kernel, w10, by decide, (fun _ hx => (nomatch hx))⟩, ?_⟩
      rw [e]
      rfl
    rename_i ns
    split at h3
    · rename_i e
      obtain ⟨ts, tl, tok, rfl⟩ := pTerms_ok h3
      refine ⟨.mix w ts, ⟨nw, tl, tok⟩, ⟨w10, by omega, fun t ht => (tok t ht).1⟩, ?_⟩
      rw [e]
      rfl
    rename_i nm
    obtain ⟨_, s2, _, h4, h5, _⟩ := RR.bind_ok h3
    obtain ⟨_, f, nf, rfl⟩ := pName_ok h4
    have f10 : f.length ≤ 10 := by have := nf.l4; omega
    split at h5
    · rename_i e
      cases h5
      obtain ⟨hn, hl⟩ := pNames_nm (n := 4) (R := s2)
      refine ⟨.use w f (s2.take (pNames 4 s2)), ⟨nw, nf, by rw [List.length_take]; omega, hn⟩, ⟨w10, f10, by rw [List.length_take]; omega, fun x hx => by have := (hn x hx).l4; omega⟩, ?_⟩
      rw [e]
      show w :: "use" :: f :: s2 = (w :: "use" :: f :: s2.take (pNames 4 s2)) ++ s2.drop (pNames 4 s2)
      rw [List.cons_append, List.cons_append, List.cons_append, List.take_append_drop]
    rename_i nu
    obtain ⟨_, s3, _, h6, h7, _⟩ := RR.bind_ok h5
    obtain ⟨_, g, ng, rfl⟩ := pName_ok h6
    have g10 : g.length ≤ 10 := by have := ng.l4; omega
    split at h7
    · rename_i e
      obtain ⟨_, y, ny, rfl⟩ := pName_ok h7
      have y10 : y.length ≤ 10 := by have := ny.l4; omega
      refine ⟨.flat "pair" w [f, g, y], ⟨nw, .inr (.inr ⟨rfl, f, g, y, rfl, nf, ng, ny⟩)⟩, ⟨by decide +kernel, by decide +kernel, by decide +kernel, w10, by show 3 ≤ 10; decide, fun x hx => ?_⟩, ?_⟩
      · simp only [List.mem_cons, List.not_mem_nil, or_false] at hx
        rcases hx with rfl | rfl | rfl <;> assumption
      · rw [e]
        rfl
    · rename_i np
      cases h7
      have k3 : k = "plain" ∨ k = "odd" ∨ k = "keep" := by
        rcases kind7 hk with e | e | e | e | e
        · exact absurd e ns
        · exact absurd e nm
        · exact absurd e nu
        · exact absurd e np
        · exact e
      refine ⟨.flat k w [f, g], ⟨nw, .inr (.inl ⟨k3, f, g, rfl, nf, ng⟩)⟩, ⟨nm, nu, kl, w10, by show 2 ≤ 10; decide, fun x hx => ?_⟩, rfl⟩
      simp only [List.mem_cons, List.not_mem_nil, or_false] at hx
      rcases hx with rfl | rfl <;> assumption
theorem pEnd_ok {R r : List Str} {n : Nat} (h : pEnd R = .ok n r) : (∀ z ∈ R, IsNm z) ∧ 0 < R.length ∧ R.length ≤ 4 := by
  obtain ⟨_, s, _, h1, h2, _⟩ := RR.bind_ok h
  obtain ⟨_, w, nw, rfl⟩ := pName_ok h1
  split at h2
  · rename_i e
    obtain ⟨hn, hl⟩ := pNames_nm (n := 3) (R := s)
    have e2 : s.take (pNames 3 s) = s := by
      have := List.take_append_drop (pNames 3 s) s
      rw [e, List.append_nil] at this
      exact this
    have l2 : s.length ≤ pNames 3 s := by
      have := congrArg List.length e2
      rw [List.length_take] at this
      omega
    rw [e2] at hn
    refine ⟨fun z hz => ?_, by show 0 < s.length + 1; omega, by show s.length + 1 ≤ 4; omega⟩
    rcases List.mem_cons.mp hz with e | hz
    · rw [e]; exact nw
    · exact hn z hz
  · cases h2
theorem pNet_ok : ∀ {n m : Nat} {R r : List Str}, pNet n R = .ok m r → ∃ (ps : List Pt) (os : List Str), (∀ p ∈ ps, OkP p ∧ SmP p) ∧ (∀ z ∈ os, IsNm z) ∧ 0 < os.length ∧ os.length ≤ 4 ∧ R = partsW ps ++ (">" : Str) :: os
  | 0, _, _, _, h => by cases h
  | n + 1, _, [], _, h => by cases h
  | n + 1, m, z :: R, r, h => by
    have h : (if z = ">" then (pEnd R).up 1 else (pPart (z :: R)).bind (pSemi (pNet n))) = .ok m r := h
    split at h
    · rename_i hz
      obtain ⟨_, h, _⟩ := RR.up_ok h
      obtain ⟨h1, h2, h3⟩ := pEnd_ok h
      exact ⟨[], R, fun p hp => (nomatch hp), h1, h2, h3, by rw [hz]; rfl⟩
    · obtain ⟨_, s, _, h1, h2, _⟩ := RR.bind_ok h
      obtain ⟨p, op, sp, e⟩ := pPart_ok h1
      cases s with
      | nil => cases h2
      | cons y s =>
        have h2 : (if y = ";" then (pNet n s).up 1 else .er 0) = .ok _ r := h2
        split at h2
        · rename_i hy
          obtain ⟨_, h3, _⟩ := RR.up_ok h2
          obtain ⟨ps, os, h4, h5, h6, h7, rfl⟩ := pNet_ok h3
          refine ⟨p :: ps, os, fun q hq => ?_, h5, h6, h7, ?_⟩
          · rcases List.mem_cons.mp hq with e | hq
            · rw [e]; exact ⟨op, sp⟩
            · exact h4 q hq
          · rw [e, hy]
            show _ = (ptW p ++ (";" : Str) :: partsW ps) ++ _
            rw [List.append_assoc]
            rfl
        · cases h2
end
end Un
namespace Un
open PySem L2 TL
section
variable {P : Program} {w : World} {K : PySem.W.Frag} {mg : Str → Option Value} {base : Heap}
open XV
/-! ### the reader's words -/
abbrev sNumOf : Stmt := top 30
abbrev sWInit : Stmt := inClass (top 31) 0
abbrev sAhead : Stmt := inClass (top 31) 1
abbrev sTake : Stmt := inClass (top 31) 2
abbrev sTakeName : Stmt := inClass (top 31) 3
abbrev sTakeNames : Stmt := inClass (top 31) 4
abbrev sTakeNumber : Stmt := inClass (top 31) 5
theorem kwa : ¬ (("words" : Str) = "at") := by decide +kernel
def wf (L : Addr) (i : Nat) : List (Str × V) := putF "at" (.int (i : Int)) (putF "words" (.ref L) [])
theorem wf_eq (L : Addr) (i : Nat) : wf L i = ([("words", V.ref L), ("at", V.int (i : Int))] : List (Str × V)) := by
  show (if ("words" : Str) = "at" then [(("words" : Str), V.int (i : Int))] else (("words" : Str), V.ref L) :: putF "at" (V.int (i : Int)) []) = ([("words", V.ref L), ("at", V.int (i : Int))] : List (Str × V))
  rw [if_neg kwa]
  all_goals rfl
theorem wf_words (L : Addr) (i : Nat) : (wf L i).lookup ("words" : Str) = some (.ref L) := by
  unfold wf
  rw [lookup_putF, if_neg kwa, lookup_putF, if_pos rfl]
theorem wf_at (L : Addr) (i : Nat) : (wf L i).lookup ("at" : Str) = some (.int (i : Int)) := by
  unfold wf
  rw [lookup_putF, if_pos rfl]
theorem wf_no (L : Addr) (i : Nat) {m : Str} (h1 : ¬ m = "at") (h2 : ¬ m = "words") : (wf L i).lookup m = none := by
  unfold wf
  rw [lookup_putF, if_neg h1, lookup_putF, if_neg h2]
  all_goals rfl
theorem wf_put (L : Addr) (i : Nat) : putF "at" (.int ((i : Int) + 1)) (wf L i) = wf L (i + 1) := by
  rw [wf_eq, wf_eq]
  show (if ("words" : Str) = "at" then _ else (("words" : Str), V.ref L) :: (if ("at" : Str) = "at" then [(("at" : Str), V.int ((i : Int) + 1))] else _)) = ([("words", V.ref L), ("at", V.int ((i + 1 : Nat) : Int))] : List (Str × V))
  rw [if_neg kwa, if_pos rfl]
  all_goals rfl
/-- a reader at p of which R is left -/
def Wd (C : Addr) (H : Hp) (p L : Addr) (R : List Str) : Prop := ∃ (dx : Addr) (W : List Str) (i : Nat), H p = some (.ins C dx (wf L i)) ∧ H L = some (.lst (W.map V.str)) ∧ W.length ≤ 2000 ∧ i ≤ W.length ∧ W.drop i = R
theorem Wd.same {C : Addr} {H H' : Hp} {p L : Addr} {R : List Str} (h : Wd C H p L R) (s : Same H H') : Wd C H' p L R := by
  obtain ⟨dx, W, i, h1, h2, h3, h4, h5⟩ := h
  exact ⟨dx, W, i, s _ _ h1, s _ _ h2, h3, h4, h5⟩
theorem Wd.tups {C : Addr} {H H' : Hp} {p L : Addr} {R : List Str} (h : Wd C H p L R) (k : Kp p H H') : Tups H H' := fun a xs e => by
  obtain ⟨dx, W, i, h1, _⟩ := h
  exact k a _ e (ne_of e h1 (by intro z; cases z))
/-- one word further -/
theorem wd_step {C dx p L : Addr} {H : Hp} {W R : List Str} {z : Str} {i : Nat} (h1 : H p = some (.ins C dx (wf L i))) (h2 : H L = some (.lst (W.map V.str))) (h3 : W.length ≤ 2000) (h5 : W.drop i = z :: R) :
    Wd C (upd H p (.ins C dx (wf L (i + 1)))) p L R ∧ W[i]? = some z ∧ i < W.length := by
  have hi : i < W.length := by
    by_cases h : i < W.length
    · exact h
    · rw [List.drop_eq_nil_iff.mpr (by omega)] at h5
      cases h5
  have e : W.drop i = W[i] :: W.drop (i + 1) := List.drop_eq_getElem_cons hi
  rw [e] at h5
  have e1 : W[i] = z := (List.cons.inj h5).1
  have e2 : W.drop (i + 1) = R := (List.cons.inj h5).2
  have n : L ≠ p := ne_of h2 h1 (by intro z; cases z)
  exact ⟨⟨dx, W, i + 1, upd_same, by rw [upd_ne n]; exact h2, h3, hi, e2⟩, by rw [List.getElem?_eq_getElem hi, e1], hi⟩
def headV : List Str → V
  | [] => .non
  | z :: _ => .str z
structure WT (K : PySem.W.Frag) (mg : Str → Option Value) (C : Addr) : Prop where
  cl : Cls K C
  nW : NoAttr K C "words"
  nA : NoAttr K C "at"
  len : mg "len" = none
def spWInit (C : Addr) : Sp := fun vs H Q _ => ∃ (p dx : Addr) (s : Str), vs = [.ref p, .str s] ∧ H p = some (.ins C dx []) ∧ s.length ≤ 100000 ∧ (Txt.split s " ").length ≤ 2000 ∧ ∀ L H', H L = none → Wd C H' p L (Txt.split s " ") → Kp p H H' → Q .non H'
theorem scWInit : FnScope ["self", "text"] ["self", "text"] (defScope sWInit) := ⟨rfl, rfl, rfl, by decide +kernel, rfl, by decide +kernel, by decide +kernel⟩
theorem ok_winit {f C : Addr} {fd : FuncData} (F : Fun K "__init__" "Words.__init__" sWInit f fd) (T : WT K mg C) : FnOk P w K mg base CX0 1 f fd ["self", "text"] (spWInit C) := by
  refine F.ok scWInit (fun vs H Q E h => ?_) (fun cdv A outer s H vs Q E hr h => ?_)
  · obtain ⟨p, dx, s, rfl, _⟩ := h
    rfl
  obtain ⟨p, dx, z, rfl, hp, hz, hl, q⟩ := h
  refine ⟨_, pss_cons (ps_fld (pv 0) (pe_split (pv 1) pe_str) rfl) (pss_one (ps_fld (pv 0) pe_int rfl)), ?_⟩
  have h1 : (200000 : Nat) ≤ sizeLine := by decide
  refine ⟨_, rfl, ⟨_, rfl⟩, z, " ", rfl, rfl, by decide +kernel, by omega, fun L hL => ?_⟩
  have n : p ≠ L := ne_of_none hp hL
  refine ⟨_, rfl, p, C, dx, [], rfl, by rw [upd_ne n]; exact hp, T.cl, T.nW, (by show 0 < 1000; decide), ?_⟩
  refine ⟨_, rfl, p, C, dx, _, rfl, upd_same, T.cl, T.nA, (by show 1 < 1000; decide), ?_⟩
  refine q L _ hL ⟨dx, Txt.split z " ", 0, upd_same, ?_, hl, Nat.zero_le _, rfl⟩ fun a o e na => ?_
  · rw [upd_ne n.symm, upd_ne n.symm, upd_same]
  · rw [upd_ne na, upd_ne na, upd_ne (ne_of_none e hL)]
    exact e
def spAhead (C : Addr) : Sp := fun vs H Q _ => ∃ (p L : Addr) (R : List Str), vs = [.ref p] ∧ Wd C H p L R ∧ Q (headV R) H
theorem scAhead : FnScope ["self"] ["self"] (defScope sAhead) := ⟨rfl, rfl, rfl, by decide +kernel, rfl, by decide +kernel, by decide +kernel⟩
theorem ok_ahead {f C : Addr} {fd : FuncData} (F : Fun K "ahead" "Words.ahead" sAhead f fd) (T : WT K mg C) : FnOk P w K mg base CX0 1 f fd ["self"] (spAhead C) := by
  refine F.ok scAhead (fun vs H Q E h => ?_) (fun cdv A outer s H vs Q E hr h => ?_)
  · obtain ⟨p, L, R, rfl, _⟩ := h
    rfl
  obtain ⟨p, L, R, rfl, ⟨dx, W, i, h1, h2, h3, h4, h5⟩, q⟩ := h
  refine ⟨_, pss_one (ps_ret (pe_ifExp (pt_cmpR op_lt (pe_fld (pv 0) rfl) (pe_callB call_len_seq (by rfl) T.len PySem.boot_len (pa_cons (pe_fld (pv 0) rfl) pa_nil)) (nomark _)) (pe_ix ix_list (pe_fld (pv 0) rfl) (pe_fld (pv 0) rfl) (fun _ _ => rfl)) pe_non)), ?_⟩
  refine ⟨_, rfl, p, C, dx, _, _, rfl, h1, T.cl, T.nA, wf_at _ _, _, rfl, p, C, dx, _, _, rfl, h1, T.cl, T.nW, wf_words _ _, L, _, rfl, .inl (SqL.of h2), _, _, rfl, rfl, _, rfl, ?_⟩
  cases R with
  | nil =>
    have hi : W.length ≤ i := List.drop_eq_nil_iff.mp h5
    rw [decide_eq_false (by rw [List.length_map]; omega)]
    exact iteF q
  | cons z R =>
    obtain ⟨_, hz, hi⟩ := wd_step h1 h2 h3 h5
    rw [decide_eq_true (by rw [List.length_map]; omega)]
    refine iteT ?_
    exact ⟨_, rfl, p, C, dx, _, _, rfl, h1, T.cl, T.nW, wf_words _ _, _, rfl, p, C, dx, _, _, rfl, h1, T.cl, T.nA, wf_at _ _, L, _, i, _, rfl, rfl, SqL.of h2, atI_nat (by rw [List.getElem?_map, hz]; rfl), q⟩
theorem lk_ahead (L : Addr) (i : Nat) : (wf L i).lookup ("ahead" : Str) = none := wf_no L i (by decide +kernel) (by decide +kernel)
theorem lk_take (L : Addr) (i : Nat) : (wf L i).lookup ("take" : Str) = none := wf_no L i (by decide +kernel) (by decide +kernel)
theorem lk_take_name (L : Addr) (i : Nat) : (wf L i).lookup ("take_name" : Str) = none := wf_no L i (by decide +kernel) (by decide +kernel)
theorem lk_take_names (L : Addr) (i : Nat) : (wf L i).lookup ("take_names" : Str) = none := wf_no L i (by decide +kernel) (by decide +kernel)
theorem lk_take_number (L : Addr) (i : Nat) : (wf L i).lookup ("take_number" : Str) = none := wf_no L i (by decide +kernel) (by decide +kernel)
/-- the instance as a method call asks for it -/
theorem Wd.ins {C p L : Addr} {H : Hp} {R : List Str} (h : Wd C H p L R) : ∃ dx i, H p = some (.ins C dx (wf L i)) := by
  obtain ⟨dx, W, i, h1, _⟩ := h
  exact ⟨dx, i, h1⟩
/-- a number's text as a number -/
def spNumOf : Sp := fun vs H Q _ => ∃ n : Int, vs = [.str (dec n)] ∧ -99 ≤ n ∧ n ≤ 99 ∧ Q (.int n) H
theorem dec_facts {i : Int} (h0 : -99 ≤ i) (h1 : i ≤ 99) : (dec i).length ≤ 3 ∧ Txt.isdecimal (Txt.removeprefix (dec i) "-") = true ∧ PySem.intText? (dec i) = some i := by
  have all : ∀ k : Fin 199, (dec ((k.val : Int) - 99)).length ≤ 3 ∧ Txt.isdecimal (Txt.removeprefix (dec ((k.val : Int) - 99)) "-") = true ∧ PySem.intText? (dec ((k.val : Int) - 99)) = some ((k.val : Int) - 99) := by decide +kernel
  have e : i = (((⟨(i + 99).toNat, by omega⟩ : Fin 199).val : Nat) : Int) - 99 := by
    show i = ((i + 99).toNat : Int) - 99
    omega
  rw [e]
  exact all _
theorem scNumOf : FnScope ["word"] ["word"] (defScope sNumOf) := ⟨rfl, rfl, rfl, by decide +kernel, rfl, by decide +kernel, by decide +kernel⟩
theorem ok_numof {f : Addr} {fd : FuncData} (F : Fun K "number_of" "number_of" sNumOf f fd) (mlen : mg "len" = none) (mint : mg "int" = none) (mstr : mg "str" = none) : FnOk P w K mg base CX0 1 f fd ["word"] spNumOf := by
  refine F.ok scNumOf (fun vs H Q E h => ?_) (fun cdv A outer s H vs Q E hr h => ?_)
  · obtain ⟨n, rfl, _⟩ := h
    rfl
  obtain ⟨n, rfl, n0, n1, q⟩ := h
  refine ⟨_, pss_cons (ps_if (PW.pt (pw_or (pt_cmpR op_gt (pe_callB call_len (by rfl) mlen PySem.boot_len (pa_cons (pv 0) pa_nil)) pe_int (nomark _))
        (pw_or1 (pt_not (pt_val (pe_bm0 PySem.F.plainAttrs_str PySem.F.slot_str_isdecimal PySem.F.type_str_isdecimal mt_isdecimal (pe_bm PySem.F.plainAttrs_str PySem.F.slot_str_removeprefix PySem.F.type_str_removeprefix mt_removeprefix (pv 0) (pa_cons pe_str pa_nil))))))))
      (pss_one (ps_ret pe_non)) pss_nil)
    (pss_one (ps_ret (pe_ifExp (pt_cmpR op_eq (pe_callTy call_str_int (by rfl) mstr (by decide +kernel) (pa_cons (pe_callTy call_int_str (by rfl) mint (by decide +kernel) (pa_cons (pv 0) pa_nil)) pa_nil)) (pv 0) (nomark _))
      (pe_callTy call_int_str (by rfl) mint (by decide +kernel) (pa_cons (pv 0) pa_nil)) pe_non))), ?_⟩
  obtain ⟨d1, d2, d3⟩ := dec_facts n0 n1
  have h1 : (1000 : Nat) ≤ sizeLine := by decide
  refine ⟨_, rfl, _, (dec n).length, rfl, ⟨by omega, rfl⟩, _, 3, rfl, rfl, _, rfl, ?_⟩
  rw [decide_eq_false (by omega)]
  refine iteF ?_
  refine ⟨_, rfl, rfl, dec n, "-", rfl, rfl, by omega, rfl, _, rfl, rfl, trivial, _, rfl, ?_⟩
  rw [d2]
  refine iteF ?_
  refine ⟨_, rfl, dec n, n, rfl, d3, by omega, n, rfl, dec_log n0 n1, _, rfl, rfl, _, rfl, ?_⟩
  rw [decide_eq_true (show V.str (toString n) = V.str (dec n) from rfl)]
  exact iteT ⟨_, rfl, dec n, n, rfl, d3, by omega, q⟩
/-- take, its choices in a tuple -/
def spTakeI (C : Addr) : Sp := fun vs H Q _ => ∃ (p L c : Addr) (z : Str) (cs R : List Str), vs = [.ref p, .ref c] ∧ H c = some (.tup (cs.map V.str)) ∧ z ∈ cs ∧ Wd C H p L (z :: R) ∧ ∀ H', Wd C H' p L R → Kp p H H' → Q (.str z) H'
def spTake (C : Addr) : Sp := fun vs H Q _ => ∃ (p L : Addr) (z : Str) (cs R : List Str), vs = .ref p :: cs.map V.str ∧ cs.length ≤ 1000 ∧ z ∈ cs ∧ Wd C H p L (z :: R) ∧ ∀ H', Wd C H' p L R → Kp p H H' → Q (.str z) H'
theorem flat_strs (cs : List Str) : (cs.map V.str).all flatV = true := by
  rw [List.all_map, List.all_eq_true]
  intro x _
  rfl
theorem in_strs {z : Str} {cs : List Str} (h : z ∈ cs) : inV (.str z) (cs.map V.str) = true := by
  unfold inV
  rw [List.any_map, List.any_eq_true]
  exact ⟨z, h, by show (z == z) = true; simp⟩
theorem scTake : FnScope ["self", "choices", "word"] ["self", "choices"] (defScope sTake) := ⟨rfl, rfl, rfl, by decide +kernel, rfl, by decide +kernel, by decide +kernel⟩
theorem ok_take {f C g : Addr} {fd gd : FuncData} (F : Fun K "take" "Words.take" sTake f fd) (T : WT K mg C) (G : Mt P w K mg base C 1 g gd "ahead" ["self"] (spAhead C)) : FnR P w K mg base CX0 2 f (spTake C) := by
  obtain ⟨oc, od, kV, doc, pm, an, cdv, ct, osl, rfl, lk, hcd⟩ := F.ex
  refine FnR.imp (StX.fn_star (k := 1) (ps := ["self"]) (pv := "choices") (sp := spTakeI C) lk hcd scTake StX.cxUp_none (StX.bind_star1 (B := fun xs => bindArgs (PySem.W.fnOf "take" "Words.take" (defArgs sTake) (defBody sTake) (defScope sTake) .none kV doc pm an cdv ct) ⟨xs, []⟩) (p1 := "self") (pv := "choices") (fun _ => rfl) (fun _ _ _ => rfl)) (fun A outer s H vs Q E hr h => ?_)) (fun vs H Q E h => ?_)
  · obtain ⟨p, L, c, z, cs, R, rfl, hc, hz, hW, q⟩ := h
    refine ⟨_, pss_cons (ps_set (i := 2) scTake.nd rfl (Or.inl rfl) (pe_meth0 (pv 0) T.cl G.mt G.ok hr G.b .nil pass0))
      (pss_cons (ps_if (pt_cmpR op_notIn_seq (pv 2) (pv 1) (by rfl)) (pss_one ps_never) pss_nil)
      (pss_cons (ps_fld (pv 0) (pe_op op_add (pe_fld (pv 0) rfl) pe_int) rfl)
      (pss_one (ps_ret (pv 2))))), ?_⟩
    obtain ⟨dx0, i0, h10⟩ := hW.ins
    refine ⟨_, rfl, p, dx0, _, rfl, h10, lk_ahead _ _, p, L, z :: R, rfl, hW, ?_⟩
    refine ⟨_, rfl, _, rfl, c, _, rfl, .inr (SqT.of hc), rfl, flat_strs cs, _, rfl, ?_⟩
    obtain ⟨dx, W, i, h1, h2, h3, h4, h5⟩ := hW
    rw [show inV (headV (z :: R)) (cs.map V.str) = true from in_strs hz]
    refine iteF ?_
    refine ⟨_, rfl, p, C, dx, _, _, rfl, h1, T.cl, T.nA, wf_at _ _, _, _, rfl, rfl, _, rfl, p, C, dx, _, rfl, h1, T.cl, T.nA, (by rw [wf_eq]; show 2 < 1000; decide), ?_⟩
    rw [wf_put]
    refine ⟨_, rfl, q _ (wd_step h1 h2 h3 h5).1 fun a o e na => ?_⟩
    rw [upd_ne na]
    exact e
  · obtain ⟨p, L, z, cs, R, rfl, hl, hz, hW, q⟩ := h
    refine ⟨[.ref p], cs.map V.str, rfl, rfl, by rw [List.length_map]; exact Nat.le_of_lt (small1000 hl), fun c hc => ?_⟩
    have s1 := same_upd hc (.tup (cs.map V.str))
    exact ⟨p, L, c, z, cs, R, rfl, upd_same, hz, hW.same s1, fun H' w' k' => q H' w' ((Same.kp s1).trans k')⟩
def spTakeName (C : Addr) : Sp := fun vs H Q _ => ∃ (p L : Addr) (z : Str) (R : List Str), vs = [.ref p] ∧ IsNm z ∧ Wd C H p L (z :: R) ∧ ∀ H', Wd C H' p L R → Kp p H H' → Q (.str z) H'
theorem scTakeName : FnScope ["self", "word"] ["self"] (defScope sTakeName) := ⟨rfl, rfl, rfl, by decide +kernel, rfl, by decide +kernel, by decide +kernel⟩
theorem ok_takename {f C g gn : Addr} {fd gd nd : FuncData} (F : Fun K "take_name" "Words.take_name" sTakeName f fd) (T : WT K mg C) (G : Mt P w K mg base C 1 g gd "ahead" ["self"] (spAhead C)) (N : Df P w K mg base 1 gn nd "is_name" ["value"] (spName K)) : FnOk P w K mg base CX0 2 f fd ["self"] (spTakeName C) := by
  refine F.ok scTakeName (fun vs H Q E h => ?_) (fun cdv A outer s H vs Q E hr h => ?_)
  · obtain ⟨p, L, z, R, rfl, _⟩ := h
    rfl
  obtain ⟨p, L, z, R, rfl, nz, hW, q⟩ := h
  refine ⟨_, pss_cons (ps_set (i := 1) scTakeName.nd rfl (Or.inl rfl) (pe_meth0 (pv 0) T.cl G.mt G.ok hr G.b .nil pass0))
    (pss_cons (ps_if (pt_not (pt_val (pe_call N.ok hr (by rfl) N.m N.kp N.b .nil pass0 (pa_cons (pv 1) pa_nil)))) (pss_one ps_never) pss_nil)
    (pss_cons (ps_fld (pv 0) (pe_op op_add (pe_fld (pv 0) rfl) pe_int) rfl)
    (pss_one (ps_ret (pv 1))))), ?_⟩
  obtain ⟨dx0, i0, h10⟩ := hW.ins
  refine ⟨_, rfl, p, dx0, _, rfl, h10, lk_ahead _ _, p, L, z :: R, rfl, hW, ?_⟩
  have n4 := nz.l4
  refine ⟨_, rfl, _, rfl, .inl ⟨z, rfl, by omega, fun H1 s1 => ⟨_, rfl, ?_⟩⟩⟩
  rw [nz.b]
  refine iteF ?_
  obtain ⟨dx, W, i, h1, h2, h3, h4, h5⟩ := hW.same s1
  refine ⟨_, rfl, p, C, dx, _, _, rfl, h1, T.cl, T.nA, wf_at _ _, _, _, rfl, rfl, _, rfl, p, C, dx, _, rfl, h1, T.cl, T.nA, (by rw [wf_eq]; show 2 < 1000; decide), ?_⟩
  rw [wf_put]
  refine ⟨_, rfl, q _ (wd_step h1 h2 h3 h5).1 ((Same.kp s1).trans fun a o e na => ?_)⟩
  rw [upd_ne na]
  exact e
def spTakeNumber (C : Addr) : Sp := fun vs H Q _ => ∃ (p L : Addr) (lo hi n : Int) (R : List Str), vs = [.ref p, .int lo, .int hi] ∧ -99 ≤ n ∧ n ≤ 99 ∧ lo ≤ n ∧ n ≤ hi ∧ Wd C H p L (dec n :: R) ∧ ∀ H', Wd C H' p L R → Kp p H H' → Q (.int n) H'
theorem scTakeNumber : FnScope ["self", "least", "most", "word", "number"] ["self", "least", "most"] (defScope sTakeNumber) := ⟨rfl, rfl, rfl, by decide +kernel, rfl, by decide +kernel, by decide +kernel⟩
theorem ok_takenumber {f C g gn go : Addr} {fd gd nd od : FuncData} (F : Fun K "take_number" "Words.take_number" sTakeNumber f fd) (T : WT K mg C) (G : Mt P w K mg base C 1 g gd "ahead" ["self"] (spAhead C)) (N : Df P w K mg base 2 gn nd "is_number" ["value", "least", "most"] (spNumber K))
    (O : Df P w K mg base 1 go od "number_of" ["word"] spNumOf) : FnOk P w K mg base CX0 3 f fd ["self", "least", "most"] (spTakeNumber C) := by
  refine F.ok scTakeNumber (fun vs H Q E h => ?_) (fun cdv A outer s H vs Q E hr h => ?_)
  · obtain ⟨p, L, lo, hi, n, R, rfl, _⟩ := h
    rfl
  obtain ⟨p, L, lo, hi, n, R, rfl, n0, n1, l0, l1, hW, q⟩ := h
  have hr1 : Room 1 _ := hr.mono (by decide)
  refine ⟨_, pss_cons (ps_set (i := 3) scTakeNumber.nd rfl (Or.inl rfl) (pe_meth0 (pv 0) T.cl G.mt G.ok hr1 G.b .nil pass0))
    (pss_cons (ps_set (i := 4) scTakeNumber.nd rfl (Or.inl rfl) (pe_ifExp (pt_cmpR op_isN (pv 3) pe_non (nomark _)) pe_non (pe_call O.ok hr1 (by rfl) O.m O.kp O.b .nil pass0 (pa_cons (pv 3) pa_nil))))
    (pss_cons (ps_if (pt_not (pt_val (pe_call N.ok hr (by rfl) N.m N.kp N.b .nil pass0 (pa_cons (pv 4) (pa_cons (pv 1) (pa_cons (pv 2) pa_nil)))))) (pss_one ps_never) pss_nil)
    (pss_cons (ps_fld (pv 0) (pe_op op_add (pe_fld (pv 0) rfl) pe_int) rfl)
    (pss_one (ps_ret (pv 4)))))), ?_⟩
  obtain ⟨dx0, i0, h10⟩ := hW.ins
  refine ⟨_, rfl, p, dx0, _, rfl, h10, lk_ahead _ _, p, L, dec n :: R, rfl, hW, ?_⟩
  refine ⟨_, rfl, rfl, _, rfl, ?_⟩
  rw [show decide (headV (dec n :: R) = V.non) = false from decide_eq_false (fun z => by cases z)]
  refine iteF ?_
  refine ⟨_, rfl, n, rfl, n0, n1, ?_⟩
  refine ⟨_, rfl, _, rfl, _, rfl, _, lo, hi, rfl, .inl ⟨n, rfl, _, rfl, ?_⟩⟩
  rw [decide_eq_true l0, decide_eq_true l1]
  refine iteF ?_
  obtain ⟨dx, W, i, h1, h2, h3, h4, h5⟩ := hW
  refine ⟨_, rfl, p, C, dx, _, _, rfl, h1, T.cl, T.nA, wf_at _ _, _, _, rfl, rfl, _, rfl, p, C, dx, _, rfl, h1, T.cl, T.nA, (by rw [wf_eq]; show 2 < 1000; decide), ?_⟩
  rw [wf_put]
  refine ⟨_, rfl, q _ (wd_step h1 h2 h3 h5).1 fun a o e na => ?_⟩
  rw [upd_ne na]
  exact e
/-- no name stands ahead -/
def NoNm : List Str → Prop
  | [] => True
  | z :: _ => nameB z = false ∧ z.length ≤ 1000
def spTakeNames (C : Addr) : Sp := fun vs H Q _ => ∃ (p L : Addr) (most : Int) (ns R : List Str), vs = [.ref p, .int most] ∧ (∀ z ∈ ns, IsNm z) ∧ (ns.length : Int) ≤ most ∧ ns.length ≤ 100 ∧ ((ns.length : Int) < most → NoNm R) ∧ Wd C H p L (ns ++ R) ∧
  ∀ (t : Addr) (H' : Hp), Wd C H' p L R → Kp p H H' → H t = none → H' t = some (.tup (ns.map V.str)) → Q (.ref t) H'
theorem scTakeNames : FnScope ["self", "most", "names"] ["self", "most"] (defScope sTakeNames) := ⟨rfl, rfl, rfl, by decide +kernel, rfl, by decide +kernel, by decide +kernel⟩
theorem Kp.was {p q : Addr} {H H' : Hp} (k : Kp p H H') (n : q ≠ p) (h : H' q = none) : H q = none := by
  cases e : H q with
  | none => rfl
  | some o =>
    have := k q o e n
    rw [h] at this
    cases this
theorem ok_takenames {f C g gn gt : Addr} {fd gd nd td : FuncData} (F : Fun K "take_names" "Words.take_names" sTakeNames f fd) (T : WT K mg C) (G : Mt P w K mg base C 1 g gd "ahead" ["self"] (spAhead C)) (N : Df P w K mg base 1 gn nd "is_name" ["value"] (spName K))
    (M : Mt P w K mg base C 2 gt td "take_name" ["self"] (spTakeName C)) (mtuple : mg "tuple" = none) : FnOk P w K mg base CX0 3 f fd ["self", "most"] (spTakeNames C) := by
  refine F.ok scTakeNames (fun vs H Q E h => ?_) (fun cdv A outer s H vs Q E hr h => ?_)
  · obtain ⟨p, L, most, ns, R, rfl, _⟩ := h
    rfl
  obtain ⟨p, L, most, ns, R, rfl, hn, hm, h100, hno, hW, q⟩ := h
  have hr1 : Room 1 _ := hr.mono (by decide)
  refine ⟨_, pss_cons (ps_set (i := 2) scTakeNames.nd rfl (Or.inl rfl) (pe_lst pa_nil))
    (C8.pss_cut (ps_while PassesOwn.never (PW.pt (pw_and (pt_cmpR op_lt (pe_callB call_len_seq (by rfl) T.len PySem.boot_len (pa_cons (pv 2) pa_nil)) (pv 1) (nomark _))
        (pw_and1 (pt_val (pe_call N.ok hr1 (by rfl) N.m N.kp N.b .nil pass0 (pa_cons (pe_meth0 (pv 0) T.cl G.mt G.ok hr1 G.b .nil pass0) pa_nil))))))
      (pss_one (ps_expr (pe_bm PySem.F.plainAttrs_list PySem.F.slot_list_append PySem.F.type_list_append mt_append (pv 2) (pa_cons (pe_meth0 (pv 0) T.cl M.mt M.ok hr M.b .nil pass0) pa_nil)))))
    (pss_one (ps_ret (pe_callTy call_tuple_of (by rfl) mtuple (by decide +kernel) (pa_cons (pv 2) pa_nil))))), ?_⟩
  refine ⟨Nat.zero_le _, fun D hD => ?_⟩
  have npD : p ≠ D := by
    obtain ⟨dx, i, h⟩ := hW.ins
    exact ne_of_none h hD
  refine ⟨fun σ' H2 => σ' = [some (.ref p), some (.int most), some (.ref D)] ∧ Kp p H H2 ∧ H2 D = some (.lst (ns.map V.str)) ∧ Wd C H2 p L R, ?_, ?_⟩
  · refine ⟨fun m σ' H2 => ∃ j, j + m = ns.length ∧ σ' = [some (.ref p), some (.int most), some (.ref D)] ∧ Kp p H H2 ∧ H2 D = some (.lst ((ns.take j).map V.str)) ∧ Wd C H2 p L (ns.drop j ++ R),
      ⟨ns.length, 0, by omega, rfl, Same.kp (same_upd hD _), upd_same, hW.same (same_upd hD _)⟩, ?_⟩
    rintro m σ' H2 ⟨j, hj, rfl, k2, hD2, w2⟩
    have hlen : ((ns.take j).map V.str).length = j := by rw [List.length_map, List.length_take]; omega
    refine ⟨_, rfl, D, _, rfl, .inl (SqL.of hD2), _, rfl, _, _, rfl, rfl, _, rfl, ?_⟩
    rw [hlen]
    have fin : j = ns.length → ∀ H3, Same H2 H3 → ([some (.ref p), some (.int most), some (.ref D)] : L2.St) = [some (.ref p), some (.int most), some (.ref D)] ∧ Kp p H H3 ∧ H3 D = some (.lst (ns.map V.str)) ∧ Wd C H3 p L R := fun e H3 s3 => by
      subst e
      rw [List.take_length] at hD2
      rw [List.drop_length, List.nil_append] at w2
      exact ⟨rfl, k2.trans (Same.kp s3), s3 _ _ hD2, w2.same s3⟩
    cases hc : decide ((j : Int) < most) with
    | false =>
      have hc' := of_decide_eq_false hc
      exact iteF (fin (by omega) H2 (Same.refl H2))
    | true =>
      have hc' : (j : Int) < most := of_decide_eq_true hc
      refine iteT ?_
      obtain ⟨dx, i, hp2⟩ := w2.ins
      refine ⟨_, rfl, p, dx, _, rfl, hp2, lk_ahead _ _, p, L, _, rfl, w2, ?_⟩
      by_cases hjn : j < ns.length
      · have ed : ns.drop j = ns[j] :: ns.drop (j + 1) := List.drop_eq_getElem_cons hjn
        have nz := hn _ (List.getElem_mem hjn)
        rw [ed] at w2
        rw [ed]
        have n4 := nz.l4
        refine ⟨_, rfl, .inl ⟨ns[j], rfl, by omega, fun H3 s3 => ⟨_, rfl, ?_⟩⟩⟩
        rw [nz.b]
        refine iteT ⟨fun σ' H4 => ∃ j', j' = j + 1 ∧ σ' = [some (.ref p), some (.int most), some (.ref D)] ∧ Kp p H H4 ∧ H4 D = some (.lst ((ns.take j').map V.str)) ∧ Wd C H4 p L (ns.drop j' ++ R), fun σ' H4 ⟨j', e, h⟩ => ⟨ns.length - j', by omega, j', by omega, h⟩, ?_⟩
        have w3 := w2.same s3
        obtain ⟨dx3, i3, hp3⟩ := w3.ins
        have hD3 := s3 _ _ hD2
        refine ⟨_, rfl, .inl ⟨rfl, _, SqL.of hD3⟩, _, rfl, p, dx3, _, rfl, hp3, lk_take_name _ _, p, L, ns[j], _, rfl, nz, w3, fun H4 w4 k4 => ?_⟩
        have hD4 := k4 _ _ hD3 npD.symm
        refine ⟨D, _, _, rfl, rfl, hD4, by rw [hlen]; exact small1000 (by omega), ?_⟩
        refine ⟨j + 1, rfl, rfl, fun a o e na => ?_, ?_, ?_⟩
        · rw [upd_ne (ne_of_none e hD)]
          exact k4 a o (s3 _ _ (k2 a o e na)) na
        · rw [upd_same, List.take_add_one, List.getElem?_eq_getElem hjn, List.map_append]
          rfl
        · obtain ⟨dx4, W4, i4, g1, g2, g3, g4, g5⟩ := w4
          have nL : L ≠ D := by
            obtain ⟨_, _, _, _, hL0, _⟩ := hW
            exact ne_of_none hL0 hD
          exact ⟨dx4, W4, i4, by rw [upd_ne npD]; exact g1, by rw [upd_ne nL]; exact g2, g3, g4, g5⟩
      · have ej : j = ns.length := by omega
        have hnR := hno (by omega)
        rw [ej, List.drop_length, List.nil_append]
        cases R with
        | nil =>
          exact ⟨_, rfl, .inr ⟨"NoneType", .base .non, by decide +kernel, fun H3 s3 => ⟨_, rfl, iteF (fin ej H3 s3)⟩⟩⟩
        | cons z R =>
          obtain ⟨nb, nl⟩ := hnR
          refine ⟨_, rfl, .inl ⟨z, rfl, nl, fun H3 s3 => ⟨_, rfl, ?_⟩⟩⟩
          rw [nb]
          exact iteF (fin ej H3 s3)
  · rintro σ' H2 ⟨rfl, k2, hD2, w2⟩
    refine ⟨_, rfl, D, _, rfl, .inl ⟨SqL.of hD2, fun t ht => ?_⟩⟩
    have ntp : t ≠ p := by
      obtain ⟨dx, i, h⟩ := w2.ins
      exact (ne_of_none h ht).symm
    exact q t _ (w2.same (same_upd ht _)) (k2.trans (Same.kp (same_upd ht _))) (k2.was ntp ht) upd_same
abbrev sReadTerm : Stmt := top 32
abbrev sReadTerms : Stmt := top 33
structure MT (mg : Str → Option Value) : Prop where
  fac : ∃ t, mg "MOST_FACTOR" = some (.int 99 t)
  del : ∃ t, mg "MOST_DELAY" = some (.int 4 t)
  tms : ∃ t, mg "MOST_TERMS" = some (.int 6 t)
  ends : ∃ t, mg "MOST_ENDS" = some (.int 4 t)
  outs : ∃ t, mg "MOST_OUTS" = some (.int 4 t)
/-- the reader's methods -/
structure MS (P : Program) (w : World) (K : PySem.W.Frag) (mg : Str → Option Value) (base : Heap) (C : Addr) (f1 f2 f3 f4 f5 : Addr) (d1 d3 d4 d5 : FuncData) : Prop where
  T : WT K mg C
  ah : Mt P w K mg base C 1 f1 d1 "ahead" ["self"] (spAhead C)
  tkF : FnR P w K mg base CX0 2 f2 (spTake C)
  tkM : Meth K C "take" f2
  nm : Mt P w K mg base C 2 f3 d3 "take_name" ["self"] (spTakeName C)
  ns : Mt P w K mg base C 3 f4 d4 "take_names" ["self", "most"] (spTakeNames C)
  nu : Mt P w K mg base C 3 f5 d5 "take_number" ["self", "least", "most"] (spTakeNumber C)
def spReadTerm (C : Addr) : Sp := fun vs H Q _ => ∃ (p L : Addr) (t : Tm) (y : Str) (R : List Str), vs = [.ref p] ∧ SmT t ∧ IsNm t.a ∧ ¬ y = "late" ∧ Wd C H p L (bare t ++ y :: R) ∧ ∀ (x : V) (H' : Hp), TmAt H' x t → Wd C H' p L (y :: R) → Kp p H H' → Q x H'
theorem scReadTerm : FnScope ["words", "factor", "wire", "delay"] ["words"] (defScope sReadTerm) := ⟨rfl, rfl, rfl, by decide +kernel, rfl, by decide +kernel, by decide +kernel⟩
theorem ok_readterm {f C f1 f2 f3 f4 f5 : Addr} {fd d1 d3 d4 d5 : FuncData} (F : Fun K "read_term" "read_term" sReadTerm f fd) (M : MS P w K mg base C f1 f2 f3 f4 f5 d1 d3 d4 d5) (B : MT mg) : FnOk P w K mg base CX0 4 f fd ["words"] (spReadTerm C) := by
  refine F.ok scReadTerm (fun vs H Q E h => ?_) (fun cdv A outer s H vs Q E hr h => ?_)
  · obtain ⟨p, L, t, y, R, rfl, _⟩ := h
    rfl
  obtain ⟨p, L, t, y, R, rfl, sm, nm, ny, hW, q⟩ := h
  obtain ⟨tf, mf⟩ := B.fac
  obtain ⟨td, md⟩ := B.del
  have hr1 : Room 1 _ := hr.mono (by decide)
  have hr2 : Room 2 _ := hr.mono (by decide)
  refine ⟨_, pss_cons (ps_set (i := 1) scReadTerm.nd rfl (Or.inl rfl) (pe_meth (pv 0) M.T.cl M.nu.mt M.nu.ok hr M.nu.b .nil pass0 (pa_cons (pe_un un_neg (pe_glob (v := .int 99) (by rfl) mf ⟨_, rfl⟩)) (pa_cons (pe_glob (v := .int 99) (by rfl) mf ⟨_, rfl⟩) pa_nil))))
    (pss_cons (ps_set (i := 2) scReadTerm.nd rfl (Or.inl rfl) (pe_meth0 (pv 0) M.T.cl M.nm.mt M.nm.ok hr2 M.nm.b .nil pass0))
    (pss_cons (ps_set (i := 3) scReadTerm.nd rfl (Or.inl rfl) pe_int)
    (C8.pss_cut (ps_if (pt_cmpR op_eq (pe_meth0 (pv 0) M.T.cl M.ah.mt M.ah.ok hr1 M.ah.b .nil pass0) pe_str (nomark _))
      (pss_cons (ps_expr (pe_methR (pv 0) M.T.cl M.tkM M.tkF hr2 pass0 (pa_cons pe_str pa_nil)))
      (pss_one (ps_set (i := 3) scReadTerm.nd rfl (Or.inl rfl) (pe_meth (pv 0) M.T.cl M.nu.mt M.nu.ok hr M.nu.b .nil pass0 (pa_cons pe_int (pa_cons (pe_glob (v := .int 4) (by rfl) md ⟨_, rfl⟩) pa_nil)))))) pss_nil)
    (pss_one (ps_ret (pe_tup (pa_cons (pv 1) (pa_cons (pv 3) (pa_cons (pv 2) pa_nil))))))))), ?_⟩
  have n0 := sm.n0
  have n1 := sm.n1
  have d0 := sm.d0
  have d1 := sm.d1
  obtain ⟨dx, i, h1⟩ := hW.ins
  refine ⟨_, rfl, p, dx, _, rfl, h1, lk_take_number _ _, 99, rfl, p, L, -99, 99, t.n, _, rfl, n0, n1, n0, n1, hW, fun H1 w1 k1 => ?_⟩
  obtain ⟨dx1, i1, g1⟩ := w1.ins
  refine ⟨_, rfl, p, dx1, _, rfl, g1, lk_take_name _ _, p, L, t.a, _, rfl, nm, w1, fun H2 w2 k2 => ?_⟩
  refine ⟨fun σ' H3 => σ' = [some (.ref p), some (.int t.n), some (.str t.a), some (.int t.d)] ∧ Kp p H H3 ∧ Wd C H3 p L (y :: R), ?_, ?_⟩
  · obtain ⟨dx2, i2, g2⟩ := w2.ins
    by_cases e : t.d = 0
    · replace w2 : Wd C H2 p L (y :: R) := by
        rw [if_pos e] at w2
        exact w2
      refine ⟨_, rfl, p, dx2, _, rfl, g2, lk_ahead _ _, p, L, y :: R, rfl, w2, rfl, _, rfl, ?_⟩
      rw [show decide (headV (y :: R) = V.str "late") = false from decide_eq_false (fun z => ny (V.str.inj z))]
      refine iteF ?_
      refine ⟨?_, k1.trans k2, w2⟩
      rw [e]
      rfl
    · replace w2 : Wd C H2 p L (("late" : Str) :: dec t.d :: y :: R) := by
        rw [if_neg e] at w2
        exact w2
      refine ⟨_, rfl, p, dx2, _, rfl, g2, lk_ahead _ _, p, L, ("late" : Str) :: dec t.d :: y :: R, rfl, w2, rfl, _, rfl, ?_⟩
      rw [show decide (headV (("late" : Str) :: dec t.d :: y :: R) = V.str "late") = true from decide_eq_true rfl]
      refine iteT ?_
      refine ⟨_, rfl, p, dx2, _, rfl, g2, lk_take _ _, p, L, "late", ["late"], _, rfl, by decide, List.mem_singleton.mpr rfl, w2, fun H3 w3 k3 => ?_⟩
      obtain ⟨dx3, i3, g3⟩ := w3.ins
      refine ⟨_, rfl, p, dx3, _, rfl, g3, lk_take_number _ _, p, L, 1, 4, t.d, y :: R, rfl, by omega, by omega, by omega, by omega, w3, fun H4 w4 k4 => ?_⟩
      exact ⟨rfl, (k1.trans k2).trans (k3.trans k4), w4⟩
  · rintro σ' H3 ⟨rfl, k3, w3⟩
    refine ⟨_, rfl, _, rfl, _, rfl, (by show 3 ≤ sizeLine; decide), fun x hx => ?_⟩
    exact q (.ref x) _ ⟨x, rfl, upd_same⟩ (w3.same (same_upd hx _)) (k3.trans (Same.kp (same_upd hx _)))
def spReadTerms (C : Addr) : Sp := fun vs H Q _ => ∃ (p L : Addr) (ts : List Tm) (R : List Str), vs = [.ref p] ∧ ts.length ≤ 6 ∧ (∀ t ∈ ts, SmT t ∧ IsNm t.a) ∧ Wd C H p L (tmsW ts ts.length ++ (";" : Str) :: R) ∧
  ∀ (x : Addr) (us : List V) (H' : Hp), H' x = some (.tup us) → All2 (TmAt H') us ts → Wd C H' p L ((";" : Str) :: R) → Kp p H H' → Q (.ref x) H'
theorem scReadTerms : FnScope ["words", "terms"] ["words"] (defScope sReadTerms) := ⟨rfl, rfl, rfl, by decide +kernel, rfl, by decide +kernel, by decide +kernel⟩
theorem ok_readterms {f C f1 f2 f3 f4 f5 g : Addr} {fd d1 d3 d4 d5 gd : FuncData} (F : Fun K "read_terms" "read_terms" sReadTerms f fd) (M : MS P w K mg base C f1 f2 f3 f4 f5 d1 d3 d4 d5) (B : MT mg) (G : Df P w K mg base 4 g gd "read_term" ["words"] (spReadTerm C)) (mtuple : mg "tuple" = none) :
    FnOk P w K mg base CX0 5 f fd ["words"] (spReadTerms C) := by
  refine F.ok scReadTerms (fun vs H Q E h => ?_) (fun cdv A outer s H vs Q E hr h => ?_)
  · obtain ⟨p, L, ts, R, rfl, _⟩ := h
    rfl
  obtain ⟨p, L, ts, R, rfl, hl, hs, hW, q⟩ := h
  obtain ⟨tm, mm⟩ := B.tms
  have hr1 : Room 1 _ := hr.mono (by decide)
  have hr2 : Room 2 _ := hr.mono (by decide)
  refine ⟨_, pss_cons (ps_if (pt_cmpR op_eq (pe_meth0 (pv 0) M.T.cl M.ah.mt M.ah.ok hr1 M.ah.b .nil pass0) pe_str (nomark _)) (pss_one (ps_ret (pe_tup pa_nil))) pss_nil)
    (pss_cons (ps_set (i := 1) scReadTerms.nd rfl (Or.inl rfl) (pe_lst (pa_cons (pe_call G.ok hr (by rfl) G.m G.kp G.b .nil pass0 (pa_cons (pv 0) pa_nil)) pa_nil)))
    (C8.pss_cut (ps_while PassesOwn.never (PW.pt (pw_and (pt_cmpR op_eq (pe_meth0 (pv 0) M.T.cl M.ah.mt M.ah.ok hr1 M.ah.b .nil pass0) pe_str (nomark _))
        (pw_and1 (pt_cmpR op_lt (pe_callB call_len_seq (by rfl) M.T.len PySem.boot_len (pa_cons (pv 1) pa_nil)) (pe_glob (v := .int 6) (by rfl) mm ⟨_, rfl⟩) (nomark _)))))
      (pss_cons (ps_expr (pe_methR (pv 0) M.T.cl M.tkM M.tkF hr2 pass0 (pa_cons pe_str pa_nil)))
      (pss_one (ps_expr (pe_bm PySem.F.plainAttrs_list PySem.F.slot_list_append PySem.F.type_list_append mt_append (pv 1) (pa_cons (pe_call G.ok hr (by rfl) G.m G.kp G.b .nil pass0 (pa_cons (pv 0) pa_nil)) pa_nil))))))
    (pss_one (ps_ret (pe_callTy call_tuple_of (by rfl) mtuple (by decide +kernel) (pa_cons (pv 1) pa_nil)))))), ?_⟩
  obtain ⟨dx, i, h1⟩ := hW.ins
  refine ⟨_, rfl, p, dx, _, rfl, h1, lk_ahead _ _, p, L, _, rfl, hW, ?_⟩
  cases ts with
  | nil =>
    refine ⟨rfl, _, rfl, ?_⟩
    rw [show decide (headV (tmsW [] ([] : List Tm).length ++ (";" : Str) :: R) = V.str ";") = true from decide_eq_true rfl]
    refine iteT ⟨Nat.zero_le _, fun x hx => ?_⟩
    exact q x [] _ upd_same .nil (hW.same (same_upd hx _)) (Same.kp (same_upd hx _))
  | cons t0 r =>
    rw [tmsW_cons] at hW
    rw [tmsW_cons]
    obtain ⟨sm0, nm0⟩ := hs t0 (List.mem_cons_self ..)
    refine ⟨rfl, _, rfl, ?_⟩
    rw [show decide (headV (bare t0 ++ commaW r ++ (";" : Str) :: R) = V.str ";") = false from decide_eq_false (fun z => dec_semi sm0.n0 sm0.n1 (V.str.inj z))]
    refine iteF ?_
    obtain ⟨y, R', ey, ny⟩ := after_term r R
    rw [List.append_assoc, ey] at hW
    refine ⟨_, rfl, p, L, t0, y, R', rfl, sm0, nm0, ny, hW, fun x1 H1 hx1 w1 k1 => ?_⟩
    refine ⟨(by show 1 ≤ sizeLine; decide), fun D hD1 => ?_⟩
    rw [← ey] at w1
    have nDp : D ≠ p := by
      obtain ⟨_, _, h⟩ := w1.ins
      exact (ne_of_none h hD1).symm
    have hD : H D = none := k1.was nDp hD1
    have nDL : L ≠ D := by
      obtain ⟨_, _, _, _, h, _⟩ := w1
      exact ne_of_none h hD1
    refine ⟨fun σ' H2 => ∃ us, σ' = [some (.ref p), some (.ref D)] ∧ Kp p H H2 ∧ H2 D = some (.lst us) ∧ All2 (TmAt H2) us (t0 :: r) ∧ Wd C H2 p L ((";" : Str) :: R), ?_, ?_⟩
    · refine ⟨fun m σ' H2 => ∃ j us, j + m = r.length ∧ σ' = [some (.ref p), some (.ref D)] ∧ Kp p H H2 ∧ H2 D = some (.lst us) ∧ All2 (TmAt H2) us ((t0 :: r).take (j + 1)) ∧ Wd C H2 p L (commaW (r.drop j) ++ (";" : Str) :: R),
        ⟨r.length, 0, [x1], by omega, rfl, k1.trans (Same.kp (same_upd hD1 _)), upd_same, ?_, w1.same (same_upd hD1 _)⟩, ?_⟩
      · exact All2.nil.snoc (x := x1) (y := t0) (hx1.tups (Same.tups (same_upd hD1 _)))
      rintro m σ' H2 ⟨j, us, hj, rfl, k2, hD2, hA, w2⟩
      obtain ⟨dx2, i2, g2⟩ := w2.ins
      refine ⟨_, rfl, p, dx2, _, rfl, g2, lk_ahead _ _, p, L, _, rfl, w2, ?_⟩
      by_cases hjr : j < r.length
      · have ed : r.drop j = r[j] :: r.drop (j + 1) := List.drop_eq_getElem_cons hjr
        rw [ed] at w2
        rw [ed]
        refine ⟨rfl, _, rfl, ?_⟩
        rw [show decide (headV (commaW (r[j] :: r.drop (j + 1)) ++ (";" : Str) :: R) = V.str ",") = true from decide_eq_true rfl]
        refine iteT ?_
        have hul : us.length = j + 1 := by
          rw [hA.1, List.length_take, List.length_cons]
          omega
        have hlr : r.length + 1 ≤ 6 := hl
        refine ⟨_, rfl, D, _, rfl, .inl (SqL.of hD2), _, _, rfl, rfl, _, rfl, ?_⟩
        rw [decide_eq_true (by rw [hul]; omega)]
        refine iteT ⟨fun σ' H4 => ∃ j' us, j' = j + 1 ∧ σ' = [some (.ref p), some (.ref D)] ∧ Kp p H H4 ∧ H4 D = some (.lst us) ∧ All2 (TmAt H4) us ((t0 :: r).take (j' + 1)) ∧ Wd C H4 p L (commaW (r.drop j') ++ (";" : Str) :: R), fun σ' H4 ⟨j', us, e, h⟩ => ⟨r.length - j', by omega, j', us, by omega, h⟩, ?_⟩
        refine ⟨_, rfl, p, dx2, _, rfl, g2, lk_take _ _, p, L, ",", [","], bare r[j] ++ commaW (r.drop (j + 1)) ++ (";" : Str) :: R, rfl, by decide, List.mem_singleton.mpr rfl, w2, fun H3 w3 k3 => ?_⟩
        have hD3 := k3 _ _ hD2 nDp
        obtain ⟨sm, nm⟩ := hs r[j] (List.mem_cons_of_mem _ (List.getElem_mem hjr))
        obtain ⟨y2, R2, ey2, ny2⟩ := after_term (r.drop (j + 1)) R
        rw [List.append_assoc, ey2] at w3
        refine ⟨_, rfl, .inl ⟨rfl, _, SqL.of hD3⟩, _, rfl, p, L, r[j], y2, R2, rfl, sm, nm, ny2, w3, fun x4 H4 hx4 w4 k4 => ?_⟩
        rw [← ey2] at w4
        have hD4 := k4 _ _ hD3 nDp
        refine ⟨D, _, _, rfl, rfl, hD4, by rw [hul]; exact small1000 (by omega), ?_⟩
        have tw : ∀ (z : V) (q : Tm), TmAt H4 z q → TmAt (upd H4 D (.lst (us ++ [x4]))) z q := fun z q ⟨a, e1, h1⟩ => ⟨a, e1, by rw [upd_ne (ne_of h1 hD4 (by intro z; cases z))]; exact h1⟩
        have t24 : Tups H2 H4 := (w2.tups k3).trans (w3.tups k4)
        refine ⟨j + 1, us ++ [x4], rfl, rfl, fun a o e na => ?_, upd_same, ?_, ?_⟩
        · rw [upd_ne (ne_of_none e hD)]
          exact k4 a o (k3 a o (k2 a o e na) na) na
        · rw [List.take_add_one, List.getElem?_cons_succ, List.getElem?_eq_getElem hjr]
          exact (hA.mono fun z q h => tw z q (h.tups t24)).snoc (tw x4 _ hx4)
        · obtain ⟨dx5, W5, i5, e1, e2, e3, e4, e5⟩ := w4
          exact ⟨dx5, W5, i5, by rw [upd_ne nDp.symm]; exact e1, by rw [upd_ne nDL]; exact e2, e3, e4, e5⟩
      · have ej : j = r.length := by omega
        have e0 : r.drop j = [] := List.drop_eq_nil_iff.mpr (by omega)
        rw [e0] at w2
        rw [e0]
        refine ⟨rfl, _, rfl, ?_⟩
        rw [show decide (headV (commaW [] ++ (";" : Str) :: R) = V.str ",") = false from decide_eq_false (fun z => absurd (V.str.inj z) (show ¬ (";" : Str) = "," by decide +kernel))]
        refine iteF ⟨us, rfl, k2, hD2, ?_, w2⟩
        rw [List.take_of_length_le (by rw [List.length_cons]; omega)] at hA
        exact hA
    · rintro σ' H2 ⟨us, rfl, k2, hD2, hA, w2⟩
      refine ⟨_, rfl, D, _, rfl, .inl ⟨SqL.of hD2, fun x hx => ?_⟩⟩
      exact q x us _ upd_same (hA.mono fun _ _ h => h.tups (Same.tups (same_upd hx _))) (w2.same (same_upd hx _)) (k2.trans (Same.kp (same_upd hx _)))
abbrev sReadPart : Stmt := top 34
def spReadPart (C : Addr) : Sp := fun vs H Q _ => ∃ (p L : Addr) (t : Pt) (R : List Str), vs = [.ref p] ∧ OkP t ∧ Wd C H p L (ptW t ++ (";" : Str) :: R) ∧ ∀ (x : V) (H' : Hp), PtAt H' x t → Wd C H' p L ((";" : Str) :: R) → Kp p H H' → Q x H'
theorem scReadPart : FnScope ["words", "wire", "kind", "name", "end"] ["words"] (defScope sReadPart) := ⟨rfl, rfl, rfl, by decide +kernel, rfl, by decide +kernel, by decide +kernel⟩
abbrev kinds7 : List Str := ["source", "mix", "plain", "odd", "keep", "pair", "use"]
theorem ok_readpart {f C f1 f2 f3 f4 f5 g : Addr} {fd d1 d3 d4 d5 gd : FuncData} (F : Fun K "read_part" "read_part" sReadPart f fd) (M : MS P w K mg base C f1 f2 f3 f4 f5 d1 d3 d4 d5) (B : MT mg) (G : Df P w K mg base 5 g gd "read_terms" ["words"] (spReadTerms C)) :
    FnOk P w K mg base CX0 6 f fd ["words"] (spReadPart C) := by
  refine F.ok scReadPart (fun vs H Q E h => ?_) (fun cdv A outer s H vs Q E hr h => ?_)
  · obtain ⟨p, L, t, R, rfl, _⟩ := h
    rfl
  obtain ⟨p, L, t, R, rfl, ok, hW, q⟩ := h
  obtain ⟨te, me⟩ := B.ends
  have hr2 : Room 2 _ := hr.mono (by decide)
  have hr3 : Room 3 _ := hr.mono (by decide)
  refine ⟨_, pss_cons (ps_set (i := 1) scReadPart.nd rfl (Or.inl rfl) (pe_meth0 (pv 0) M.T.cl M.nm.mt M.nm.ok hr2 M.nm.b .nil pass0))
    (pss_cons (ps_set (i := 2) scReadPart.nd rfl (Or.inl rfl) (pe_methR (pv 0) M.T.cl M.tkM M.tkF hr2 pass0 (pa_cons pe_str (pa_cons pe_str (pa_cons pe_str (pa_cons pe_str (pa_cons pe_str (pa_cons pe_str (pa_cons pe_str pa_nil)))))))))
    (pss_cons (ps_if (pt_cmpR op_eq (pv 2) pe_str (nomark _)) (pss_one (ps_ret (pe_tup (pa_cons (pv 2) (pa_cons (pv 1) pa_nil))))) pss_nil)
    (pss_cons (ps_if (pt_cmpR op_eq (pv 2) pe_str (nomark _)) (pss_one (ps_ret (pe_tup (pa_cons (pv 2) (pa_cons (pv 1) (pa_cons (pe_call G.ok hr (by rfl) G.m G.kp G.b .nil pass0 (pa_cons (pv 0) pa_nil)) pa_nil)))))) pss_nil)
    (pss_cons (ps_set (i := 3) scReadPart.nd rfl (Or.inl rfl) (pe_meth0 (pv 0) M.T.cl M.nm.mt M.nm.ok hr2 M.nm.b .nil pass0))
    (pss_cons (ps_if (pt_cmpR op_eq (pv 2) pe_str (nomark _)) (pss_one (ps_ret (pe_tup (pa_cons (pv 2) (pa_cons (pv 1) (pa_cons (pv 3) (pa_cons (pe_meth (pv 0) M.T.cl M.ns.mt M.ns.ok hr3 M.ns.b .nil pass0 (pa_cons (pe_glob (v := .int 4) (by rfl) me ⟨_, rfl⟩) pa_nil)) pa_nil))))))) pss_nil)
    (pss_cons (ps_set (i := 4) scReadPart.nd rfl (Or.inl rfl) (pe_meth0 (pv 0) M.T.cl M.nm.mt M.nm.ok hr2 M.nm.b .nil pass0))
    (pss_cons (ps_if (pt_cmpR op_eq (pv 2) pe_str (nomark _)) (pss_one (ps_ret (pe_tup (pa_cons (pv 2) (pa_cons (pv 1) (pa_cons (pv 3) (pa_cons (pv 4) (pa_cons (pe_meth0 (pv 0) M.T.cl M.nm.mt M.nm.ok hr2 M.nm.b .nil pass0) pa_nil)))))))) pss_nil)
    (pss_one (ps_ret (pe_tup (pa_cons (pv 2) (pa_cons (pv 1) (pa_cons (pv 3) (pa_cons (pv 4) pa_nil)))))))))))))), ?_⟩
  obtain ⟨dx, i, h1⟩ := hW.ins
  cases t with
  | flat k w es =>
    obtain ⟨nw, hk⟩ := ok
    refine ⟨_, rfl, p, dx, _, rfl, h1, lk_take_name _ _, p, L, w, k :: (es ++ (";" : Str) :: R), rfl, nw, hW, fun H1 w1 k1 => ?_⟩
    obtain ⟨dx1, i1, g1⟩ := w1.ins
    refine ⟨_, rfl, p, dx1, _, rfl, g1, lk_take _ _, p, L, k, kinds7, es ++ (";" : Str) :: R, rfl, by decide, ?_, w1, fun H2 w2 k2 => ?_⟩
    · rcases hk with ⟨e, _⟩ | ⟨e | e | e, _⟩ | ⟨e, _⟩ <;> (rw [e]; decide +kernel)
    obtain ⟨dx2, i2, g2⟩ := w2.ins
    refine ⟨_, rfl, rfl, _, rfl, ?_⟩
    rcases hk with ⟨e, rfl⟩ | ⟨e, fn, en, rfl, nf, ne⟩ | ⟨e, fn, en, gn, rfl, nf, ne, ng⟩
    · rw [decide_eq_true (show V.str k = V.str "source" from congrArg V.str e)]
      refine iteT ⟨_, rfl, _, rfl, (by show 2 ≤ sizeLine; decide), fun x hx => ?_⟩
      exact q (.ref x) _ ⟨x, rfl, upd_same⟩ (w2.same (same_upd hx _)) ((k1.trans k2).trans (Same.kp (same_upd hx _)))
    · have d1 : ¬ k = ("source" : Str) := by rcases e with e | e | e <;> (rw [e]; decide +kernel)
      have d2 : ¬ k = ("mix" : Str) := by rcases e with e | e | e <;> (rw [e]; decide +kernel)
      have d3 : ¬ k = ("use" : Str) := by rcases e with e | e | e <;> (rw [e]; decide +kernel)
      have d4 : ¬ k = ("pair" : Str) := by rcases e with e | e | e <;> (rw [e]; decide +kernel)
      rw [decide_eq_false (fun z => d1 (V.str.inj z))]
      refine iteF ⟨_, rfl, rfl, _, rfl, ?_⟩
      rw [decide_eq_false (fun z => d2 (V.str.inj z))]
      refine iteF ⟨_, rfl, p, dx2, _, rfl, g2, lk_take_name _ _, p, L, fn, _, rfl, nf, w2, fun H3 w3 k3 => ?_⟩
      obtain ⟨dx3, i3, g3⟩ := w3.ins
      refine ⟨_, rfl, rfl, _, rfl, ?_⟩
      rw [decide_eq_false (fun z => d3 (V.str.inj z))]
      refine iteF ⟨_, rfl, p, dx3, _, rfl, g3, lk_take_name _ _, p, L, en, _, rfl, ne, w3, fun H4 w4 k4 => ?_⟩
      refine ⟨_, rfl, rfl, _, rfl, ?_⟩
      rw [decide_eq_false (fun z => d4 (V.str.inj z))]
      refine iteF ⟨_, rfl, _, rfl, _, rfl, _, rfl, (by show 4 ≤ sizeLine; decide), fun x hx => ?_⟩
      exact q (.ref x) _ ⟨x, rfl, upd_same⟩ (w4.same (same_upd hx _)) (((k1.trans k2).trans (k3.trans k4)).trans (Same.kp (same_upd hx _)))
    · have d1 : ¬ k = ("source" : Str) := by rw [e]; decide +kernel
      have d2 : ¬ k = ("mix" : Str) := by rw [e]; decide +kernel
      have d3 : ¬ k = ("use" : Str) := by rw [e]; decide +kernel
      rw [decide_eq_false (fun z => d1 (V.str.inj z))]
      refine iteF ⟨_, rfl, rfl, _, rfl, ?_⟩
      rw [decide_eq_false (fun z => d2 (V.str.inj z))]
      refine iteF ⟨_, rfl, p, dx2, _, rfl, g2, lk_take_name _ _, p, L, fn, _, rfl, nf, w2, fun H3 w3 k3 => ?_⟩
      obtain ⟨dx3, i3, g3⟩ := w3.ins
      refine ⟨_, rfl, rfl, _, rfl, ?_⟩
      rw [decide_eq_false (fun z => d3 (V.str.inj z))]
      refine iteF ⟨_, rfl, p, dx3, _, rfl, g3, lk_take_name _ _, p, L, en, _, rfl, ne, w3, fun H4 w4 k4 => ?_⟩
      obtain ⟨dx4, i4, g4⟩ := w4.ins
      refine ⟨_, rfl, rfl, _, rfl, ?_⟩
      rw [decide_eq_true (show V.str k = V.str "pair" from congrArg V.str e)]
      refine iteT ⟨_, rfl, _, rfl, _, rfl, _, rfl, _, rfl, p, dx4, _, rfl, g4, lk_take_name _ _, p, L, gn, _, rfl, ng, w4, fun H5 w5 k5 => ?_⟩
      refine ⟨(by show 5 ≤ sizeLine; decide), fun x hx => ?_⟩
      exact q (.ref x) _ ⟨x, rfl, upd_same⟩ (w5.same (same_upd hx _)) (((k1.trans k2).trans ((k3.trans k4).trans k5)).trans (Same.kp (same_upd hx _)))
  | mix w ts =>
    obtain ⟨nw, hl, hs⟩ := ok
    refine ⟨_, rfl, p, dx, _, rfl, h1, lk_take_name _ _, p, L, w, ("mix" : Str) :: (tmsW ts ts.length ++ (";" : Str) :: R), rfl, nw, hW, fun H1 w1 k1 => ?_⟩
    obtain ⟨dx1, i1, g1⟩ := w1.ins
    refine ⟨_, rfl, p, dx1, _, rfl, g1, lk_take _ _, p, L, "mix", kinds7, _, rfl, by decide, by decide +kernel, w1, fun H2 w2 k2 => ?_⟩
    refine ⟨_, rfl, rfl, _, rfl, ?_⟩
    rw [decide_eq_false (show ¬ V.str "mix" = V.str "source" by decide +kernel)]
    refine iteF ⟨_, rfl, rfl, _, rfl, ?_⟩
    rw [decide_eq_true (rfl : V.str "mix" = V.str "mix")]
    refine iteT ⟨_, rfl, _, rfl, _, rfl, p, L, ts, R, rfl, hl, hs, w2, fun b us H3 hb hA w3 k3 => ?_⟩
    refine ⟨(by show 3 ≤ sizeLine; decide), fun x hx => ?_⟩
    have s3 := same_upd hx (.tup [.str "mix", .str w, .ref b])
    exact q (.ref x) _ ⟨x, b, us, rfl, upd_same, s3 _ _ hb, hA.mono fun _ _ h => h.tups (Same.tups s3)⟩ (w3.same s3) ((k1.trans (k2.trans k3)).trans (Same.kp s3))
  | use w pn es =>
    obtain ⟨nw, np, hl, he⟩ := ok
    refine ⟨_, rfl, p, dx, _, rfl, h1, lk_take_name _ _, p, L, w, ("use" : Str) :: pn :: (es ++ (";" : Str) :: R), rfl, nw, hW, fun H1 w1 k1 => ?_⟩
    obtain ⟨dx1, i1, g1⟩ := w1.ins
    refine ⟨_, rfl, p, dx1, _, rfl, g1, lk_take _ _, p, L, "use", kinds7, _, rfl, by decide, by decide +kernel, w1, fun H2 w2 k2 => ?_⟩
    obtain ⟨dx2, i2, g2⟩ := w2.ins
    refine ⟨_, rfl, rfl, _, rfl, ?_⟩
    rw [decide_eq_false (show ¬ V.str "use" = V.str "source" by decide +kernel)]
    refine iteF ⟨_, rfl, rfl, _, rfl, ?_⟩
    rw [decide_eq_false (show ¬ V.str "use" = V.str "mix" by decide +kernel)]
    refine iteF ⟨_, rfl, p, dx2, _, rfl, g2, lk_take_name _ _, p, L, pn, _, rfl, np, w2, fun H3 w3 k3 => ?_⟩
    obtain ⟨dx3, i3, g3⟩ := w3.ins
    refine ⟨_, rfl, rfl, _, rfl, ?_⟩
    rw [decide_eq_true (rfl : V.str "use" = V.str "use")]
    refine iteT ⟨_, rfl, _, rfl, _, rfl, _, rfl, p, dx3, _, rfl, g3, lk_take_names _ _, p, L, 4, es, (";" : Str) :: R, rfl, he, by omega, by omega, fun _ => ⟨by decide +kernel, by decide +kernel⟩, w3, fun b H4 w4 k4 hb0 hb => ?_⟩
    refine ⟨(by show 4 ≤ sizeLine; decide), fun x hx => ?_⟩
    have s4 := same_upd hx (.tup [.str "use", .str w, .str pn, .ref b])
    exact q (.ref x) _ ⟨x, b, rfl, upd_same, s4 _ _ hb⟩ (w4.same s4) ((k1.trans (k2.trans (k3.trans k4))).trans (Same.kp s4))
abbrev sReadNet : Stmt := top 35
/-! no blank in a word -/
def spReadNet : Sp := fun vs H Q _ => ∃ (ps : List Pt) (os : List Str), vs = [.str (Txt.join " " (netW ps os))] ∧ ps.length ≤ 20 ∧ (∀ p ∈ ps, SmP p ∧ OkP p) ∧ 0 < os.length ∧ os.length ≤ 4 ∧ (∀ z ∈ os, IsNm z) ∧
  ∀ (x t1 t2 : Addr) (us : List V) (H' : Hp), Same H H' → H' x = some (.tup [.ref t1, .ref t2]) → H' t1 = some (.tup us) → All2 (PtAt H') us ps → H' t2 = some (.tup (os.map V.str)) → Q (.ref x) H'
theorem scReadNet : FnScope ["text", "words", "parts", "first", "others"] ["text"] (defScope sReadNet) := ⟨rfl, rfl, rfl, by decide +kernel, rfl, by decide +kernel, by decide +kernel⟩
theorem ok_readnet {f C f0 f1 f2 f3 f4 f5 g : Addr} {fd d0 d1 d3 d4 d5 gd : FuncData} (F : Fun K "read_net" "read_net" sReadNet f fd) (M : MS P w K mg base C f1 f2 f3 f4 f5 d1 d3 d4 d5) (B : MT mg) (N : NameTxt mg) (MC : Mk K C f0) (mC : mg "Words" = some (.ref C))
    (GI : FnOk P w K mg base CX0 1 f0 d0 ["self", "text"] (spWInit C)) (bI : Binds K d0 ["self", "text"] []) (G : Df P w K mg base 6 g gd "read_part" ["words"] (spReadPart C)) (mtuple : mg "tuple" = none) :
    FnOk P w K mg base CX0 7 f fd ["text"] spReadNet := by
  refine F.ok scReadNet (fun vs H Q E h => ?_) (fun cdv A outer s H vs Q E hr h => ?_)
  · obtain ⟨ps, os, rfl, _⟩ := h
    rfl
  obtain ⟨ps, os, rfl, hl, hs, ho1, ho4, hos, q⟩ := h
  obtain ⟨to, mo⟩ := B.outs
  have hr1 : Room 1 _ := hr.mono (by decide)
  have hr2 : Room 2 _ := hr.mono (by decide)
  have hr3 : Room 3 _ := hr.mono (by decide)
  refine ⟨_, pss_cons (ps_if (pt_not (pt_val (pe_callB call_isi (by rfl) N.isi (by decide +kernel) (pa_cons (pv 0) (pa_cons (pe_bltn (v := .ty "str") (by rfl) N.str (by decide +kernel) rfl) pa_nil))))) (pss_one ps_never) pss_nil)
    (pss_cons (ps_set (i := 1) scReadNet.nd rfl (Or.inl rfl) (pe_make MC GI hr2 (by rfl) mC bI .nil pass0 (pa_cons (pv 0) pa_nil)))
    (pss_cons (ps_set (i := 2) scReadNet.nd rfl (Or.inl rfl) (pe_lst pa_nil))
    (C8.pss_cut (ps_while PassesOwn.never (pt_cmpR op_ne (pe_meth0 (pv 1) M.T.cl M.ah.mt M.ah.ok hr1 M.ah.b .nil pass0) pe_str (nomark _))
      (pss_cons (ps_expr (pe_bm PySem.F.plainAttrs_list PySem.F.slot_list_append PySem.F.type_list_append mt_append (pv 2) (pa_cons (pe_call G.ok hr (by rfl) G.m G.kp G.b .nil pass0 (pa_cons (pv 1) pa_nil)) pa_nil)))
      (pss_one (ps_expr (pe_methR (pv 1) M.T.cl M.tkM M.tkF hr2 pass0 (pa_cons pe_str pa_nil))))))
    (pss_cons (ps_expr (pe_methR (pv 1) M.T.cl M.tkM M.tkF hr2 pass0 (pa_cons pe_str pa_nil)))
    (pss_cons (ps_set (i := 3) scReadNet.nd rfl (Or.inl rfl) (pe_meth0 (pv 1) M.T.cl M.nm.mt M.nm.ok hr2 M.nm.b .nil pass0))
    (pss_cons (ps_set (i := 4) scReadNet.nd rfl (Or.inl rfl) (pe_meth (pv 1) M.T.cl M.ns.mt M.ns.ok hr3 M.ns.b .nil pass0 (pa_cons (pe_op op_sub (pe_glob (v := .int 4) (by rfl) mo ⟨_, rfl⟩) pe_int) pa_nil)))
    (pss_cons (ps_if (pt_cmpR op_notN (pe_meth0 (pv 1) M.T.cl M.ah.mt M.ah.ok hr1 M.ah.b .nil pass0) pe_non (nomark _)) (pss_one ps_never) pss_nil)
    (pss_one (ps_ret (pe_tup (pa_cons (pe_callTy call_tuple_of (by rfl) mtuple (by decide +kernel) (pa_cons (pv 2) pa_nil)) (pa_cons (pe_tup (pa_cons (pv 3) (StX.pa_star (pv 4) pa_nil))) pa_nil)))))))))))), ?_⟩
  have hsplit := split_net (ps := ps) (os := os) (fun p hp => (hs p hp).2) hos
  have lo : Lo (netW ps os) 1300 := (((psW_lo (fun p hp => (hs p hp).1) ps.length).app (lo_of (l := [(">" : Str)]) 1 (Nat.le_refl _) (by decide +kernel))).app (lo_of (l := os) 4 ho4 (fun z hz => by have := (hos z hz).l4; omega))).le (by omega)
  refine ⟨_, rfl, _, _, _, _, true, rfl, .ty _, .base (.str _), kit_ty (by decide +kernel), _, rfl, iteF ?_⟩
  refine ⟨_, rfl, fun x dx nx ndx nex => ?_⟩
  have s0 : Same H (upd (upd H dx (.own x)) x (.ins C dx [])) := fun b o e => by
    rw [upd_ne (ne_of_none e nx), upd_ne (ne_of_none e ndx)]
    exact e
  refine ⟨x, dx, _, rfl, upd_same, ?_, ?_, fun L H1 hL0 w1 k1 => ⟨rfl, ?_⟩⟩
  · have := join_len lo
    omega
  · rw [hsplit, ← netW_eq]
    exact Nat.le_trans lo.1 (by decide)
  rw [hsplit] at w1
  have s1 : Same H H1 := Same.wd s0 nx k1
  refine ⟨Nat.zero_le _, fun D hD1 => ?_⟩
  have nDx : D ≠ x := by
    obtain ⟨_, _, h⟩ := w1.ins
    exact (ne_of_none h hD1).symm
  have nLD : L ≠ D := by
    obtain ⟨_, _, _, _, h, _⟩ := w1
    exact ne_of_none h hD1
  have hD : H D = none := s1.free hD1
  refine ⟨fun σ' H2 => ∃ us, σ' = [some (.str (Txt.join " " (netW ps os))), some (.ref x), some (.ref D), none, none] ∧ Same H H2 ∧ H2 D = some (.lst us) ∧ All2 (PtAt H2) us ps ∧ Wd C H2 x L ((">" : Str) :: os), ?_, ?_⟩
  · refine ⟨fun m σ' H2 => ∃ j us, j + m = ps.length ∧ σ' = [some (.str (Txt.join " " (netW ps os))), some (.ref x), some (.ref D), none, none] ∧ Same H H2 ∧ H2 D = some (.lst us) ∧ All2 (PtAt H2) us (ps.take j) ∧ Wd C H2 x L (partsW (ps.drop j) ++ (">" : Str) :: os),
      ⟨ps.length, 0, [], by omega, rfl, s1.trans (same_upd hD1 _), upd_same, .nil, w1.same (same_upd hD1 _)⟩, ?_⟩
    rintro m σ' H2 ⟨j, us, hj, rfl, s2, hD2, hA, w2⟩
    obtain ⟨dx2, i2, g2⟩ := w2.ins
    refine ⟨_, rfl, x, dx2, _, rfl, g2, lk_ahead _ _, x, L, _, rfl, w2, ?_⟩
    by_cases hjp : j < ps.length
    · have ed : ps.drop j = ps[j] :: ps.drop (j + 1) := List.drop_eq_getElem_cons hjp
      have okp := (hs ps[j] (List.getElem_mem hjp)).2
      obtain ⟨z, Rz, ez, nz⟩ := pt_head okp
      rw [ed] at w2
      rw [ed]
      have eh : headV (partsW (ps[j] :: ps.drop (j + 1)) ++ (">" : Str) :: os) = V.str z := by
        show headV ((ptW ps[j] ++ (";" : Str) :: partsW (ps.drop (j + 1))) ++ (">" : Str) :: os) = V.str z
        rw [ez]
        rfl
      rw [eh]
      refine ⟨rfl, _, rfl, ?_⟩
      rw [decide_eq_false (fun e => nz.gt (V.str.inj e))]
      have hul : us.length = j := by
        rw [hA.1, List.length_take]
        omega
      refine iteT ⟨fun σ' H4 => ∃ j' us, j' = j + 1 ∧ σ' = [some (.str (Txt.join " " (netW ps os))), some (.ref x), some (.ref D), none, none] ∧ Same H H4 ∧ H4 D = some (.lst us) ∧ All2 (PtAt H4) us (ps.take j') ∧ Wd C H4 x L (partsW (ps.drop j') ++ (">" : Str) :: os), fun σ' H4 ⟨j', us, e, h⟩ => ⟨ps.length - j', by omega, j', us, by omega, h⟩, ?_⟩
      replace w2 : Wd C H2 x L (ptW ps[j] ++ (";" : Str) :: (partsW (ps.drop (j + 1)) ++ (">" : Str) :: os)) := by
        have e : partsW (ps[j] :: ps.drop (j + 1)) ++ (">" : Str) :: os = ptW ps[j] ++ (";" : Str) :: (partsW (ps.drop (j + 1)) ++ (">" : Str) :: os) := by
          show (ptW ps[j] ++ (";" : Str) :: partsW (ps.drop (j + 1))) ++ (">" : Str) :: os = _
          rw [List.append_assoc]
          rfl
        rw [e] at w2
        exact w2
      refine ⟨_, rfl, .inl ⟨rfl, _, SqL.of hD2⟩, _, rfl, x, L, ps[j], _, rfl, okp, w2, fun v H3 hv w3 k3 => ?_⟩
      have hD3 := k3 _ _ hD2 nDx
      refine ⟨D, _, _, rfl, rfl, hD3, by rw [hul]; exact small1000 (by omega), ?_⟩
      have w3' : Wd C (upd H3 D (.lst (us ++ [v]))) x L ((";" : Str) :: (partsW (ps.drop (j + 1)) ++ (">" : Str) :: os)) := by
        obtain ⟨dx5, W5, i5, e1, e2, e3, e4, e5⟩ := w3
        exact ⟨dx5, W5, i5, by rw [upd_ne nDx.symm]; exact e1, by rw [upd_ne nLD]; exact e2, e3, e4, e5⟩
      obtain ⟨dx3, i3, g3⟩ := w3'.ins
      have s3 : Same H (upd H3 D (.lst (us ++ [v]))) := fun a o e => by
        rw [upd_ne (ne_of_none e hD)]
        exact Same.wd s2 nx k3 a o e
      refine ⟨_, rfl, x, dx3, _, rfl, g3, lk_take _ _, x, L, ";", [";"], _, rfl, by decide, List.mem_singleton.mpr rfl, w3', fun H4 w4 k4 => ?_⟩
      refine ⟨j + 1, us ++ [v], rfl, rfl, Same.wd s3 nx k4, k4 _ _ upd_same nDx, ?_, w4⟩
      have t4 := w3'.tups k4
      rw [List.take_add_one, List.getElem?_eq_getElem hjp]
      exact (hA.mono fun z q h => (PtAt.wr hD3 (h.tups (w2.tups k3))).tups t4).snoc ((PtAt.wr hD3 hv).tups t4)
    · have e0 : ps.drop j = [] := List.drop_eq_nil_iff.mpr (by omega)
      rw [e0] at w2
      rw [e0]
      refine ⟨rfl, _, rfl, ?_⟩
      rw [show decide (headV (partsW [] ++ (">" : Str) :: os) = V.str ">") = true from decide_eq_true rfl]
      refine iteF ⟨us, rfl, s2, hD2, ?_, w2⟩
      rw [List.take_of_length_le (by omega)] at hA
      exact hA
  · rintro σ' H2 ⟨us, rfl, s2, hD2, hA, w2⟩
    cases os with
    | nil => exact absurd ho1 (by decide)
    | cons o r =>
      have nr := fun z (hz : z ∈ r) => hos z (List.mem_cons_of_mem _ hz)
      have r3 : r.length ≤ 3 := by
        rw [List.length_cons] at ho4
        omega
      obtain ⟨dx2, i2, g2⟩ := w2.ins
      refine ⟨_, rfl, x, dx2, _, rfl, g2, lk_take _ _, x, L, ">", [">"], _, rfl, by decide, List.mem_singleton.mpr rfl, w2, fun H3 w3 k3 => ?_⟩
      obtain ⟨dx3, i3, g3⟩ := w3.ins
      refine ⟨_, rfl, x, dx3, _, rfl, g3, lk_take_name _ _, x, L, o, r, rfl, hos o (List.mem_cons_self ..), w3, fun H4 w4 k4 => ?_⟩
      obtain ⟨dx4, i4, g4⟩ := w4.ins
      replace w4 : Wd C H4 x L (r ++ []) := by
        rw [List.append_nil]
        exact w4
      refine ⟨_, rfl, x, dx4, _, rfl, g4, lk_take_names _ _, 4, 1, rfl, rfl, x, L, 3, r, [], rfl, nr, by omega, by omega, fun _ => trivial, w4, fun b H5 w5 k5 hb0 hb => ?_⟩
      obtain ⟨dx5, i5, g5⟩ := w5.ins
      refine ⟨_, rfl, x, dx5, _, rfl, g5, lk_ahead _ _, x, L, [], rfl, w5, rfl, _, rfl, ?_⟩
      rw [show decide (headV [] = V.non) = true from decide_eq_true rfl]
      refine iteF ?_
      have hD5 := k5 _ _ (k4 _ _ (k3 _ _ hD2 nDx) nDx) nDx
      have t5 : Tups H2 H5 := ((w2.tups k3).trans (w3.tups k4)).trans (w4.tups k5)
      have s5 : Same H H5 := Same.wd (Same.wd (Same.wd s2 nx k3) nx k4) nx k5
      refine ⟨_, rfl, D, _, rfl, .inl ⟨SqL.of hD5, fun t1 ht1 => ?_⟩⟩
      have s6 := same_upd ht1 (.tup us)
      refine ⟨_, rfl, _, rfl, b, _, rfl, .inl (SqT.of (s6 _ _ hb)), ?_, fun t2 ht2 => ⟨(by show 2 ≤ sizeLine; decide), fun y hy => ?_⟩⟩
      · show (r.map V.str ++ []).length + 1 ≤ _
        rw [List.append_nil, List.length_map]
        exact Nat.le_trans (show r.length + 1 ≤ 1000 by omega) (by decide)
      have s7 := same_upd ht2 (.tup (V.str o :: (r.map V.str ++ [])))
      have s8 := same_upd hy (.tup [.ref t1, .ref t2])
      refine q y t1 t2 us _ (((s5.trans s6).trans s7).trans s8) upd_same (s8 _ _ (s7 _ _ upd_same)) (hA.mono fun _ _ h => ((h.tups t5).tups (Same.tups s6)).tups (Same.tups (s7.trans s8))) ?_
      refine Eq.trans (s8 _ _ upd_same) ?_
      show some (HO.tup (V.str o :: (r.map V.str ++ []))) = some (HO.tup (V.str o :: r.map V.str))
      rw [List.append_nil]
/-! ### the law's helpers -/

end
end Un
namespace Un
open PySem L2 TL
section
variable {P : Program} {w : World} {K : PySem.W.Frag} {mg : Str → Option Value} {base : Heap}
/-! ### a word as a number, whatever it is -/
open XV
abbrev LITS : List Str := [";", ",", ">", "late", "mix", "use", "source", "pair", "plain", "odd", "keep", "", "-0", "100", "-100", "07", "+1", "1-", "a1", "A", "abcde", "a/b"]
/-- the words that are drawn -/
inductive WC (z : Str) : Prop where
  | nm : IsNm z → WC z
  | dec (n : Int) : -99 ≤ n → n ≤ 99 → z = Un.dec n → WC z
  | lit : z ∈ LITS → WC z
theorem WC.len {z : Str} (h : WC z) : z.length ≤ 10 := by
  cases h with
  | nm h => have := h.l4; omega
  | dec n h0 h1 e => rw [e]; exact dec_len h0 h1
  | lit h =>
    have all : ∀ y ∈ LITS, y.length ≤ 10 := by decide +kernel
    exact all z h
theorem letters_dec : ∀ c ∈ letters.cps.toList, Unicode.isDecimal c = false := by decide +kernel
theorem low_dec {w : Str} (h : ∀ c ∈ tl w, c ∈ letters.cps.toList) : Txt.isdecimal w = false := by
  unfold Txt.isdecimal
  by_cases hl : w.length > 0
  · have h0 : 0 < w.cps.size := hl
    have hm : w.cps[0] ∈ tl w := by
      show w.cps[0] ∈ w.cps.toList
      exact Array.mem_toList_iff.mpr (Array.getElem_mem _)
    have hd := letters_dec _ (h _ hm)
    have ha : w.cps.all Unicode.isDecimal = false := by
      rw [← Bool.not_eq_true, Array.all_eq_true]
      intro hh
      rw [hh 0 h0] at hd
      cases hd
    rw [ha, Bool.and_false]
  · rw [decide_eq_false hl]
    rfl
theorem name_dec {z : Str} (h : IsNm z) : Txt.isdecimal (Txt.removeprefix z "-") = false := by
  refine low_dec fun c hc => ?_
  unfold Txt.removeprefix at hc
  split at hc
  · have hc : c ∈ tl (if z.length - ("-" : Str).length == z.length then z else PySem.Builtin.Str.strSub z ("-" : Str).length z.length) := hc
    split at hc
    · exact h.low c hc
    · refine h.low c ?_
      show c ∈ z.cps.toList
      have hc : c ∈ (z.cps.extract ("-" : Str).length z.length).toList := hc
      rw [Array.toList_extract] at hc
      exact List.mem_of_mem_drop (List.mem_of_mem_take hc)
  · exact h.low c hc
theorem name_num {z : Str} (h : IsNm z) : numV z = none := by
  cases e : numV z with
  | none => rfl
  | some n =>
    exfalso
    obtain ⟨rfl, h0, h1⟩ := numV_some e
    have all : ∀ k : Fin 200, ((tl (dec ((k.val : Int) - 99))).all fun c => decide (c ∈ letters.cps.toList)) = false := by decide +kernel
    have hk := all ⟨(n + 99).toNat, by omega⟩
    have e1 : (((⟨(n + 99).toNat, by omega⟩ : Fin 200).val : Nat) : Int) - 99 = n := by
      show ((n + 99).toNat : Int) - 99 = n
      omega
    rw [e1] at hk
    have : (tl (dec n)).all (fun c => decide (c ∈ letters.cps.toList)) = true := List.all_eq_true.mpr fun c hc => decide_eq_true (h.low c hc)
    rw [hk] at this
    cases this
def numOf (z : Str) : V := match numV z with
  | some n => .int n
  | none => .non
/-- what number_of asks of a word -/
inductive NumC (z : Str) : Prop where
  | long : 3 < z.length → numV z = none → NumC z
  | no : z.length ≤ 3 → Txt.isdecimal (Txt.removeprefix z "-") = false → numV z = none → NumC z
  | some (n : Int) : z.length ≤ 3 → Txt.isdecimal (Txt.removeprefix z "-") = true → PySem.intText? z = some n → n.natAbs.log2 < 1920 → (if dec n = z then numV z = some n else numV z = none) → NumC z
theorem lits_num : ∀ z ∈ LITS, (3 < z.length ∧ numV z = none) ∨ (z.length ≤ 3 ∧ Txt.isdecimal (Txt.removeprefix z "-") = false ∧ numV z = none) ∨ ∃ n ∈ ([0, 100, 7] : List Int), z.length ≤ 3 ∧ Txt.isdecimal (Txt.removeprefix z "-") = true ∧ PySem.intText? z = some n ∧ n.natAbs.log2 < 1920 ∧ (if dec n = z then numV z = some n else numV z = none) := by decide +kernel
theorem WC.num {z : Str} (h : WC z) : NumC z := by
  cases h with
  | nm h =>
    by_cases hl : 3 < z.length
    · exact .long hl (name_num h)
    · exact .no (by omega) (name_dec h) (name_num h)
  | dec n h0 h1 e =>
    subst e
    obtain ⟨d1, d2, d3⟩ := dec_facts h0 h1
    exact .some n d1 d2 d3 (dec_log h0 h1) (by rw [if_pos rfl]; exact numV_dec h0 (by omega))
  | lit h =>
    rcases lits_num z h with ⟨h1, h2⟩ | ⟨h1, h2, h3⟩ | ⟨n, _, h1, h2, h3, h4, h5⟩
    · exact .long h1 h2
    · exact .no h1 h2 h3
    · exact .some n h1 h2 h3 h4 h5
def spNumW : Sp := fun vs H Q _ => ∃ z : Str, vs = [.str z] ∧ WC z ∧ Q (numOf z) H
theorem ok_numW {f : Addr} {fd : FuncData} (F : Fun K "number_of" "number_of" sNumOf f fd) (mlen : mg "len" = none) (mint : mg "int" = none) (mstr : mg "str" = none) : FnOk P w K mg base CX0 1 f fd ["word"] spNumW := by
  refine F.ok scNumOf (fun vs H Q E h => ?_) (fun cdv A outer s H vs Q E hr h => ?_)
  · obtain ⟨n, rfl, _⟩ := h
    rfl
  obtain ⟨z, rfl, wc, q⟩ := h
  refine ⟨_, pss_cons (ps_if (PW.pt (pw_or (pt_cmpR op_gt (pe_callB call_len (by rfl) mlen PySem.boot_len (pa_cons (pv 0) pa_nil)) pe_int (nomark _))
        (pw_or1 (pt_not (pt_val (pe_bm0 PySem.F.plainAttrs_str PySem.F.slot_str_isdecimal PySem.F.type_str_isdecimal mt_isdecimal (pe_bm PySem.F.plainAttrs_str PySem.F.slot_str_removeprefix PySem.F.type_str_removeprefix mt_removeprefix (pv 0) (pa_cons pe_str pa_nil))))))))
      (pss_one (ps_ret pe_non)) pss_nil)
    (pss_one (ps_ret (pe_ifExp (pt_cmpR op_eq (pe_callTy call_str_int (by rfl) mstr (by decide +kernel) (pa_cons (pe_callTy call_int_str (by rfl) mint (by decide +kernel) (pa_cons (pv 0) pa_nil)) pa_nil)) (pv 0) (nomark _))
      (pe_callTy call_int_str (by rfl) mint (by decide +kernel) (pa_cons (pv 0) pa_nil)) pe_non))), ?_⟩
  have zl := wc.len
  have h1 : (1000 : Nat) ≤ sizeLine := by decide
  refine ⟨_, rfl, _, z.length, rfl, ⟨by omega, rfl⟩, _, 3, rfl, rfl, _, rfl, ?_⟩
  cases wc.num with
  | long hl hn =>
    rw [decide_eq_true (by omega)]
    refine iteT (iteT ?_)
    unfold numOf at q
    rw [hn] at q
    exact q
  | no hl hd hn =>
    rw [decide_eq_false (by omega)]
    refine iteF ?_
    refine ⟨_, rfl, rfl, z, "-", rfl, rfl, by omega, rfl, _, rfl, rfl, trivial, _, rfl, ?_⟩
    rw [hd]
    refine iteT ?_
    unfold numOf at q
    rw [hn] at q
    exact q
  | some n hl hd hi hg hn =>
    rw [decide_eq_false (by omega)]
    refine iteF ?_
    refine ⟨_, rfl, rfl, z, "-", rfl, rfl, by omega, rfl, _, rfl, rfl, trivial, _, rfl, ?_⟩
    rw [hd]
    refine iteF ?_
    refine ⟨_, rfl, z, n, rfl, hi, by omega, n, rfl, hg, _, rfl, rfl, _, rfl, ?_⟩
    unfold numOf at q
    by_cases e : dec n = z
    · rw [if_pos e] at hn
      rw [decide_eq_true (show V.str (toString n) = V.str z from congrArg V.str e)]
      rw [hn] at q
      exact iteT ⟨_, rfl, z, n, rfl, hi, by omega, q⟩
    · rw [if_neg e] at hn
      rw [decide_eq_false (show ¬ V.str (toString n) = V.str z from fun h => e (V.str.inj h))]
      rw [hn] at q
      exact iteF q
end
end Un
namespace Un
open PySem L2 TL
section
variable {P : Program} {w : World} {K : PySem.W.Frag} {mg : Str → Option Value} {base : Heap}
/-! ### the reader, also where it refuses -/
open XV
def XkK (a : Addr) (C : Addr) (fs : List (Str × V)) (H : Hp) (E : XK) : Prop := ∀ d H', Kp a H H' → H d = none → H' d = some (exd d fs) → E (.ref C) (some d) H'
def XkT (p CT : Addr) (k : Nat) (H : Hp) (E : XK) : Prop := XkK p CT [("word", .int (k : Nat)), ("code", .str "InvalidText")] H E
theorem XkT.to {p CT : Addr} {k : Nat} {H H1 : Hp} {E : XK} {o1 : HO} (h : XkT p CT k H E) (q : Kp p H H1) (h1 : H1 p = some o1) : XkT p CT k H1 E := fun d H' k' hd hd' => h d H' (q.trans k') (by
  cases e : H d with
  | none => rfl
  | some u =>
    by_cases z : d = p
    · rw [z, h1] at hd
      cases hd
    · rw [q _ _ e z] at hd
      cases hd) hd'
theorem XkT.e {p CT : Addr} {k : Nat} {H H1 : Hp} {E : XK} (h : XkT p CT k H E) (s : Same H H1) : XkE CT [("word", .int (k : Nat)), ("code", .str "InvalidText")] H1 E := fun d H' s' hd hd' => h d H' (Same.kp (s.trans s')) (s.free hd) hd'
/-- n words, all of them drawn ones -/
def LN (H : Hp) (L : Addr) (n : Nat) : Prop := ∃ W : List Str, H L = some (.lst (W.map V.str)) ∧ W.length = n ∧ ∀ z ∈ W, WC z
structure Rdr (C : Addr) (H : Hp) (p L : Addr) (n : Nat) (R : List Str) : Prop where
  wd : Wd C H p L R
  ln : LN H L n
theorem strs_inj : ∀ {a b : List Str}, a.map V.str = b.map V.str → a = b
  | [], [], _ => rfl
  | x :: a, y :: b, h => by
    rw [List.map_cons, List.map_cons] at h
    injection h with h1 h2
    injection h1 with h1
    rw [h1, strs_inj h2]
  | [], _ :: _, h => by cases h
  | _ :: _, [], h => by cases h
theorem Rdr.same {C : Addr} {H H' : Hp} {p L : Addr} {n : Nat} {R : List Str} (h : Rdr C H p L n R) (s : Same H H') : Rdr C H' p L n R := by
  obtain ⟨W, h1, h2⟩ := h.ln
  exact ⟨h.wd.same s, W, s _ _ h1, h2⟩
theorem Rdr.kp {C : Addr} {H H' : Hp} {p L : Addr} {n : Nat} {R R' : List Str} (h : Rdr C H p L n R) (w : Wd C H' p L R') (k : Kp p H H') : Rdr C H' p L n R' := by
  obtain ⟨W, h1, h2⟩ := h.ln
  obtain ⟨dx, i, h3⟩ := h.wd.ins
  exact ⟨w, W, k _ _ h1 (ne_of h1 h3 (by intro z; cases z)), h2⟩
theorem Rdr.at_ {C : Addr} {H : Hp} {p L : Addr} {n : Nat} {R : List Str} (h : Rdr C H p L n R) : ∃ (dx : Addr) (W : List Str), H p = some (.ins C dx (wf L (n - R.length))) ∧ H L = some (.lst (W.map V.str)) ∧ W.length ≤ 2000 ∧ W.drop (n - R.length) = R ∧ R.length ≤ n ∧ W.length = n ∧ (∀ z ∈ W, WC z) := by
  obtain ⟨dx, W, i, h1, h2, h3, h4, h5⟩ := h.wd
  obtain ⟨W', g1, g2, g3⟩ := h.ln
  rw [h2] at g1
  injection g1 with g1
  injection g1 with g1
  have e := strs_inj g1
  subst e
  have l : R.length = W.length - i := by rw [← h5, List.length_drop]
  have ei : n - R.length = i := by omega
  rw [ei]
  exact ⟨dx, W, h1, h2, h3, h5, by omega, g2, g3⟩
theorem Rdr.wc {C : Addr} {H : Hp} {p L : Addr} {n : Nat} {R : List Str} (h : Rdr C H p L n R) : ∀ z ∈ R, WC z := fun z hz => by
  obtain ⟨dx, W, _, _, _, h5, _, _, g⟩ := h.at_
  rw [← h5] at hz
  exact g z (List.mem_of_mem_drop hz)
theorem Rdr.le {C : Addr} {H : Hp} {p L : Addr} {n : Nat} {R : List Str} (h : Rdr C H p L n R) : R.length ≤ n := by
  obtain ⟨dx, W, _, _, _, _, h, _⟩ := h.at_
  exact h
/-- what is to be shown where the reader goes on so -/
structure Cont (C CT p L : Addr) (n : Nat) (f : RR) (R : List Str) (H : Hp) (Q : V → Hp → Prop) (E : XK) : Prop where
  er : ∀ j, f = .er j → XkT p CT (n - R.length + j) H E
  ok : ∀ j R', f = .ok j R' → ∀ H', Kp p H H' → Rdr C H' p L n R' → ∀ v, Q v H'
theorem Cont.bind {C CT p L : Addr} {n m : Nat} {x : RR} {f : List Str → RR} {R R1 : List Str} {H H1 : Hp} {Q : V → Hp → Prop} {E : XK} (h : Cont C CT p L n (x.bind f) R H Q E) (e : x = .ok m R1) (g : x.good R) (k : Kp p H H1) (rd : Rdr C H p L n R) (rd1 : Rdr C H1 p L n R1) : Cont C CT p L n (f R1) R1 H1 Q E := by
  subst e
  obtain ⟨g1, g2⟩ := (show m ≤ R.length ∧ R1 = R.drop m from g)
  have l1 : R1.length = R.length - m := by rw [g2, List.length_drop]
  have le := rd.le
  obtain ⟨dx, i, h1⟩ := rd1.wd.ins
  refine ⟨fun j e => ?_, fun j R' e H' k' rd' v => h.ok (m + j) R' (by show (f R1).up m = _; rw [e]; rfl) H' (k.trans k') rd' v⟩
  have := h.er (m + j) (by show (f R1).up m = _; rw [e]; rfl)
  rw [show n - R1.length + j = n - R.length + (m + j) by omega]
  exact this.to k h1
theorem Cont.bad {C CT p L : Addr} {n m : Nat} {x : RR} {f : List Str → RR} {R : List Str} {H : Hp} {Q : V → Hp → Prop} {E : XK} (h : Cont C CT p L n (x.bind f) R H Q E) (e : x = .er m) : XkT p CT (n - R.length + m) H E := h.er m (by rw [e]; rfl)
theorem Cont.step {C CT p L : Addr} {n : Nat} {x : RR} {z : Str} {R : List Str} {H H1 : Hp} {Q : V → Hp → Prop} {E : XK} (h : Cont C CT p L n (x.up 1) (z :: R) H Q E) (k : Kp p H H1) (rd : Rdr C H p L n (z :: R)) (rd1 : Rdr C H1 p L n R) : Cont C CT p L n x R H1 Q E := by
  have le := rd.le
  rw [List.length_cons] at le
  obtain ⟨dx, i, h1⟩ := rd1.wd.ins
  refine ⟨fun j e => ?_, fun j R' e H' k' rd' v => h.ok (1 + j) R' (by rw [e]; rfl) H' (k.trans k') rd' v⟩
  have := h.er (1 + j) (by rw [e]; rfl)
  rw [List.length_cons] at this
  rw [show n - R.length + j = n - (R.length + 1) + (1 + j) by omega]
  exact this.to k h1
theorem Cont.same {C CT p L : Addr} {n : Nat} {f : RR} {R : List Str} {H H1 : Hp} {Q : V → Hp → Prop} {E : XK} (h : Cont C CT p L n f R H Q E) (s : Kp p H H1) (rd1 : Rdr C H1 p L n R) : Cont C CT p L n f R H1 Q E := by
  obtain ⟨dx, i, h1⟩ := rd1.wd.ins
  exact ⟨fun j e => (h.er j e).to s h1, fun j R' e H' k' rd' v => h.ok j R' e H' (s.trans k') rd' v⟩
def spR (C CT : Addr) (f : List Str → RR) : Sp := fun vs H Q E => ∃ (p L : Addr) (n : Nat) (R : List Str), vs = [.ref p] ∧ Rdr C H p L n R ∧ Cont C CT p L n (f R) R H Q E
def spRN (C CT : Addr) : Sp := fun vs H Q E => ∃ (p L : Addr) (n : Nat) (lo hi : Int) (R : List Str), vs = [.ref p, .int lo, .int hi] ∧ -99 ≤ lo ∧ hi ≤ 100 ∧ Rdr C H p L n R ∧ Cont C CT p L n (pNum lo hi R) R H Q E
def pTake (cs : List Str) : List Str → RR
  | z :: R => if z ∈ cs then .ok 1 R else .er 0
  | [] => .er 0
def spTkI (C CT : Addr) : Sp := fun vs H Q E => ∃ (p L c : Addr) (n : Nat) (cs R : List Str), vs = [.ref p, .ref c] ∧ H c = some (.tup (cs.map V.str)) ∧ Rdr C H p L n R ∧ (∀ m, pTake cs R = .er m → XkT p CT (n - R.length + m) H E) ∧ ∀ z R' H', R = z :: R' → z ∈ cs → Kp p H H' → Rdr C H' p L n R' → Q (.str z) H'
def spTk (C CT : Addr) : Sp := fun vs H Q E => ∃ (p L : Addr) (n : Nat) (cs R : List Str), vs = .ref p :: cs.map V.str ∧ cs.length ≤ 1000 ∧ Rdr C H p L n R ∧ (∀ m, pTake cs R = .er m → XkT p CT (n - R.length + m) H E) ∧ ∀ z R' H', R = z :: R' → z ∈ cs → Kp p H H' → Rdr C H' p L n R' → Q (.str z) H'
theorem in_strs2 {z : Str} {cs : List Str} : inV (.str z) (cs.map V.str) = decide (z ∈ cs) := by
  by_cases h : z ∈ cs
  · rw [decide_eq_true h]; exact in_strs h
  · rw [decide_eq_false h]
    unfold inV
    rw [List.any_map]
    rw [← Bool.not_eq_true, List.any_eq_true]
    rintro ⟨y, hy, e⟩
    have e : (y == z) = true := e
    exact h ((beq_iff_eq.mp e) ▸ hy)
theorem in_non {cs : List Str} : inV .non (cs.map V.str) = false := by
  unfold inV
  rw [List.any_map, ← Bool.not_eq_true, List.any_eq_true]
  rintro ⟨y, hy, e⟩
  cases e
theorem wd_next {C dx p L : Addr} {H : Hp} {R : List Str} {z : Str} {n : Nat} (rd : Rdr C H p L n (z :: R)) (h1 : H p = some (.ins C dx (wf L (n - (R.length + 1))))) : Rdr C (upd H p (.ins C dx (wf L (n - (R.length + 1) + 1)))) p L n R := by
  obtain ⟨dx', W, g1, g2, g3, g5, _, g6, g7⟩ := rd.at_
  rw [List.length_cons] at g1 g5
  rw [h1] at g1
  cases g1
  exact rd.kp (wd_step h1 g2 g3 g5).1 fun a o e na => by rw [upd_ne na]; exact e
theorem ok_tk {f C CT g fT : Addr} {fd gd dT : FuncData} {gT : List Value → List Value → List Value} (F : Fun K "take" "Words.take" sTake f fd) (T : WT K mg C) (MA : Mt P w K mg base C 1 g gd "ahead" ["self"] (spAhead C)) (XT : Xr P w K mg base CT 1 fT dT "InvalidText" ["self", "word"] (spI1 CT "InvalidText" "word") gT) : FnR P w K mg base (L2.CX P w) 3 f (spTk C CT) := by
  obtain ⟨oc, od, kV, doc, pm, an, cdv, ct, osl, rfl, lk, hcd⟩ := F.ex
  refine FnR.imp (StX.fn_star (k := 2) (ps := ["self"]) (pv := "choices") (sp := spTkI C CT) lk hcd scTake StX.cxUp (StX.bind_star1 (B := fun xs => bindArgs (PySem.W.fnOf "take" "Words.take" (defArgs sTake) (defBody sTake) (defScope sTake) .none kV doc pm an cdv ct) ⟨xs, []⟩) (p1 := "self") (pv := "choices") (fun _ => rfl) (fun _ _ _ => rfl)) (fun A outer s H vs Q E hr h => ?_)) (fun vs H Q E h => ?_)
  · obtain ⟨p, L, c, n, cs, R, rfl, hc, rd, q1, q2⟩ := h
    refine ⟨_, (pss_cons (ps_set (i := 2) scTake.nd rfl (by first | exact Or.inl rfl | exact Or.inr rfl) (pe_meth0 (pv 0) T.cl MA.mt MA.ok (hr.mono (by decide)) MA.b .nil pass0))
 (pss_cons (ps_if (pt_cmpR op_notIn_seq (pv 2) (pv 1) (by rfl))
 (pss_one (ps_raise rfl (takes_of rfl rfl rfl rfl) (ExR.pmk_exo rfl (pe_mkG XT.x (hr.mono (by decide)) (by rfl) XT.kb (pa_cons (pe_fld (pv 0) rfl) pa_nil)))))
 pss_nil)
 (pss_cons (ps_fld (pv 0) (pe_op op_add (pe_fld (pv 0) rfl) pe_int) rfl)
 (pss_one (ps_ret (pv 2)))))), ?_⟩
    obtain ⟨dx, W, h1, h2, h3, h5, _, _, _⟩ := rd.at_
    refine ⟨_, rfl, p, dx, _, rfl, h1, lk_ahead _ _, p, L, R, rfl, rd.wd, ?_⟩
    have fin : pTake cs R = .er 0 → XkE CT [("word", .int ((n - R.length : Nat) : Int)), ("code", .str "InvalidText")] H E := fun e => (q1 0 e).e (Same.refl H)
    cases R with
    | nil =>
      refine ⟨_, rfl, _, rfl, c, _, rfl, .inr (SqT.of hc), rfl, flat_strs cs, _, rfl, ?_⟩
      rw [show inV (headV []) (cs.map V.str) = false from in_non]
      refine iteT ?_
      exact ⟨_, rfl, p, C, dx, _, _, rfl, h1, T.cl, T.nA, wf_at _ _, rfl, rfl, (by decide), fun a ha => mk_raise1 XT.x.T rfl (Same.refl _) ha (fin rfl)⟩
    | cons z R =>
      refine ⟨_, rfl, _, rfl, c, _, rfl, .inr (SqT.of hc), rfl, flat_strs cs, _, rfl, ?_⟩
      rw [show inV (headV (z :: R)) (cs.map V.str) = decide (z ∈ cs) from in_strs2]
      by_cases hz : z ∈ cs
      · rw [decide_eq_true hz]
        refine iteF ?_
        refine ⟨_, rfl, p, C, dx, _, _, rfl, h1, T.cl, T.nA, wf_at _ _, _, _, rfl, rfl, _, rfl, p, C, dx, _, rfl, h1, T.cl, T.nA, (by rw [wf_eq]; show 2 < 1000; decide), ?_⟩
        rw [wf_put]
        exact ⟨_, rfl, q2 z R _ rfl hz (fun a o e na => by rw [upd_ne na]; exact e) (wd_next rd h1)⟩
      · rw [decide_eq_false hz]
        refine iteT ?_
        exact ⟨_, rfl, p, C, dx, _, _, rfl, h1, T.cl, T.nA, wf_at _ _, rfl, rfl, (by decide), fun a ha => mk_raise1 XT.x.T rfl (Same.refl _) ha (fin (if_neg hz))⟩
  · obtain ⟨p, L, n, cs, R, rfl, hl, rd, q1, q2⟩ := h
    refine ⟨[.ref p], cs.map V.str, rfl, rfl, by rw [List.length_map]; exact Nat.le_of_lt (small1000 hl), fun c hc => ?_⟩
    have s1 := same_upd hc (.tup (cs.map V.str))
    obtain ⟨dx, i, hp⟩ := (rd.same s1).wd.ins
    exact ⟨p, L, c, n, cs, R, rfl, upd_same, rd.same s1, fun m e => (q1 m e).to (Same.kp s1) hp, fun z R' H' e hz k' r' => q2 z R' H' e hz ((Same.kp s1).trans k') r'⟩
theorem ok_tkName {f C CT g gn fT : Addr} {fd gd nd dT : FuncData} {gT : List Value → List Value → List Value} (F : Fun K "take_name" "Words.take_name" sTakeName f fd) (T : WT K mg C) (MA : Mt P w K mg base C 1 g gd "ahead" ["self"] (spAhead C)) (N : Df P w K mg base 1 gn nd "is_name" ["value"] (spName K)) (XT : Xr P w K mg base CT 1 fT dT "InvalidText" ["self", "word"] (spI1 CT "InvalidText" "word") gT) : FnOk P w K mg base (L2.CX P w) 3 f fd ["self"] (spR C CT pName) := by
  refine F.okX scTakeName (fun vs H Q E h => ?_) (fun cdv A outer s H vs Q E hr h => ?_)
  · obtain ⟨p, L, n, R, rfl, _⟩ := h
    rfl
  obtain ⟨p, L, n, R, rfl, rd, q⟩ := h
  refine ⟨_, (pss_cons (ps_set (i := 1) scTakeName.nd rfl (by first | exact Or.inl rfl | exact Or.inr rfl) (pe_meth0 (pv 0) T.cl MA.mt MA.ok (hr.mono (by decide)) MA.b .nil pass0))
 (pss_cons (ps_if (pt_not (pt_val (pe_call N.ok (hr.mono (by decide)) (by rfl) N.m N.kp N.b .nil pass0 (pa_cons (pv 1) pa_nil))))
 (pss_one (ps_raise rfl (takes_of rfl rfl rfl rfl) (ExR.pmk_exo rfl (pe_mkG XT.x (hr.mono (by decide)) (by rfl) XT.kb (pa_cons (pe_fld (pv 0) rfl) pa_nil)))))
 pss_nil)
 (pss_cons (ps_fld (pv 0) (pe_op op_add (pe_fld (pv 0) rfl) pe_int) rfl)
 (pss_one (ps_ret (pv 1)))))), ?_⟩
  obtain ⟨dx, W, h1, h2, h3, h5, _, _, _⟩ := rd.at_
  refine ⟨_, rfl, p, dx, _, rfl, h1, lk_ahead _ _, p, L, R, rfl, rd.wd, ?_⟩
  cases R with
  | nil =>
    refine ⟨_, rfl, _, rfl, .inr ⟨"NoneType", .base .non, by decide +kernel, fun H1 s1 => ⟨_, rfl, iteT ?_⟩⟩⟩
    exact ⟨_, rfl, p, C, dx, _, _, rfl, s1 _ _ h1, T.cl, T.nA, wf_at _ _, rfl, rfl, (by decide), fun a ha => mk_raise1 XT.x.T rfl s1 ha ((q.er 0 rfl).e s1)⟩
  | cons z R =>
    have zl := (rd.wc z List.mem_cons_self).len
    refine ⟨_, rfl, _, rfl, .inl ⟨z, rfl, by omega, fun H1 s1 => ⟨_, rfl, ?_⟩⟩⟩
    cases hz : nameB z with
    | false =>
      refine iteT ?_
      exact ⟨_, rfl, p, C, dx, _, _, rfl, s1 _ _ h1, T.cl, T.nA, wf_at _ _, rfl, rfl, (by decide), fun a ha => mk_raise1 XT.x.T rfl s1 ha ((q.er 0 (show (if nameB z = true then RR.ok 1 R else .er 0) = _ by rw [hz]; rfl)).e s1)⟩
    | true =>
      refine iteF ?_
      refine ⟨_, rfl, p, C, dx, _, _, rfl, s1 _ _ h1, T.cl, T.nA, wf_at _ _, _, _, rfl, rfl, _, rfl, p, C, dx, _, rfl, s1 _ _ h1, T.cl, T.nA, (by rw [wf_eq]; show 2 < 1000; decide), ?_⟩
      rw [wf_put]
      exact ⟨_, rfl, q.ok 1 R (show (if nameB z = true then RR.ok 1 R else .er 0) = _ by rw [hz]; rfl) _ ((Same.kp s1).trans fun a o e na => by rw [upd_ne na]; exact e) (wd_next (rd.same s1) (s1 _ _ h1)) _⟩
theorem ok_tkNum {f C CT g gn go fT : Addr} {fd gd nd od dT : FuncData} {gT : List Value → List Value → List Value} (F : Fun K "take_number" "Words.take_number" sTakeNumber f fd) (T : WT K mg C) (MA : Mt P w K mg base C 1 g gd "ahead" ["self"] (spAhead C)) (NU : Df P w K mg base 2 gn nd "is_number" ["value", "least", "most"] (spNumber K)) (O : Df P w K mg base 1 go od "number_of" ["word"] spNumW) (XT : Xr P w K mg base CT 1 fT dT "InvalidText" ["self", "word"] (spI1 CT "InvalidText" "word") gT) : FnOk P w K mg base (L2.CX P w) 3 f fd ["self", "least", "most"] (spRN C CT) := by
  refine F.okX scTakeNumber (fun vs H Q E h => ?_) (fun cdv A outer s H vs Q E hr h => ?_)
  · obtain ⟨p, L, n, lo, hi, R, rfl, _⟩ := h
    rfl
  obtain ⟨p, L, n, lo, hi, R, rfl, l0, l1, rd, q⟩ := h
  refine ⟨_, (pss_cons (ps_set (i := 3) scTakeNumber.nd rfl (by first | exact Or.inl rfl | exact Or.inr rfl) (pe_meth0 (pv 0) T.cl MA.mt MA.ok (hr.mono (by decide)) MA.b .nil pass0))
 (pss_cons (ps_set (i := 4) scTakeNumber.nd rfl (by first | exact Or.inl rfl | exact Or.inr rfl) (pe_ifExp (pt_cmpR op_isN (pv 3) pe_non (nomark _)) pe_non (pe_call O.ok (hr.mono (by decide)) (by rfl) O.m O.kp O.b .nil pass0 (pa_cons (pv 3) pa_nil))))
 (pss_cons (ps_if (pt_not (pt_val (pe_call NU.ok (hr.mono (by decide)) (by rfl) NU.m NU.kp NU.b .nil pass0 (pa_cons (pv 4) (pa_cons (pv 1) (pa_cons (pv 2) pa_nil))))))
 (pss_one (ps_raise rfl (takes_of rfl rfl rfl rfl) (ExR.pmk_exo rfl (pe_mkG XT.x (hr.mono (by decide)) (by rfl) XT.kb (pa_cons (pe_fld (pv 0) rfl) pa_nil)))))
 pss_nil)
 (pss_cons (ps_fld (pv 0) (pe_op op_add (pe_fld (pv 0) rfl) pe_int) rfl)
 (pss_one (ps_ret (pv 4))))))), ?_⟩
  obtain ⟨dx, W, h1, h2, h3, h5, _, _, _⟩ := rd.at_
  refine ⟨_, rfl, p, dx, _, rfl, h1, lk_ahead _ _, p, L, R, rfl, rd.wd, ?_⟩
  cases R with
  | nil =>
    refine ⟨_, rfl, rfl, _, rfl, ?_⟩
    rw [show decide (headV [] = V.non) = true from decide_eq_true rfl]
    refine iteT ?_
    refine ⟨_, rfl, _, rfl, _, rfl, _, lo, hi, rfl, .inr ⟨"NoneType", false, false, .base .non, by decide +kernel, by decide +kernel, rfl, _, rfl, ?_⟩⟩
    refine iteT ?_
    exact ⟨_, rfl, p, C, dx, _, _, rfl, h1, T.cl, T.nA, wf_at _ _, rfl, rfl, (by decide), fun a ha => mk_raise1 XT.x.T rfl (Same.refl _) ha ((q.er 0 rfl).e (Same.refl H))⟩
  | cons z R =>
    have wz := rd.wc z List.mem_cons_self
    refine ⟨_, rfl, rfl, _, rfl, ?_⟩
    rw [show decide (headV (z :: R) = V.non) = false from decide_eq_false (fun z => by cases z)]
    refine iteF ?_
    refine ⟨_, rfl, z, rfl, wz, ?_⟩
    have pe : pNum lo hi (z :: R) = if inB lo hi z = true then RR.ok 1 R else .er 0 := rfl
    cases e : numV z with
    | none =>
      rw [show numOf z = .non by unfold numOf; rw [e]]
      have eb : inB lo hi z = false := by unfold inB; rw [e]
      refine ⟨_, rfl, _, rfl, _, rfl, _, lo, hi, rfl, .inr ⟨"NoneType", false, false, .base .non, by decide +kernel, by decide +kernel, rfl, _, rfl, ?_⟩⟩
      refine iteT ?_
      exact ⟨_, rfl, p, C, dx, _, _, rfl, h1, T.cl, T.nA, wf_at _ _, rfl, rfl, (by decide), fun a ha => mk_raise1 XT.x.T rfl (Same.refl _) ha ((q.er 0 (by rw [pe, eb]; rfl)).e (Same.refl H))⟩
    | some m =>
      rw [show numOf z = .int m by unfold numOf; rw [e]]
      have eb : inB lo hi z = (decide (lo ≤ m) && decide (m ≤ hi)) := by unfold inB; rw [e]
      refine ⟨_, rfl, _, rfl, _, rfl, _, lo, hi, rfl, .inl ⟨m, rfl, _, rfl, ?_⟩⟩
      rw [← eb]
      cases hb : inB lo hi z with
      | false =>
        refine iteT ?_
        exact ⟨_, rfl, p, C, dx, _, _, rfl, h1, T.cl, T.nA, wf_at _ _, rfl, rfl, (by decide), fun a ha => mk_raise1 XT.x.T rfl (Same.refl _) ha ((q.er 0 (by rw [pe, hb]; rfl)).e (Same.refl H))⟩
      | true =>
        refine iteF ?_
        refine ⟨_, rfl, p, C, dx, _, _, rfl, h1, T.cl, T.nA, wf_at _ _, _, _, rfl, rfl, _, rfl, p, C, dx, _, rfl, h1, T.cl, T.nA, (by rw [wf_eq]; show 2 < 1000; decide), ?_⟩
        rw [wf_put]
        exact ⟨_, rfl, q.ok 1 R (by rw [pe, hb]; rfl) _ (fun a o e na => by rw [upd_ne na]; exact e) (wd_next rd h1) _⟩
end
end Un
namespace Un
open PySem L2 TL
section
variable {P : Program} {w : World} {K : PySem.W.Frag} {mg : Str → Option Value} {base : Heap}
/-! ### terms, parts, where they may be wrong -/
structure MtX (P : Program) (w : World) (K : PySem.W.Frag) (mg : Str → Option Value) (base : Heap) (C : Addr) (k : Nat) (f : Addr) (fd : FuncData) (m : Str) (ps : List Str) (sp : Sp) : Prop where
  mt : Meth K C m f
  ok : FnOk P w K mg base (L2.CX P w) k f fd ps sp
  b : Binds K fd ps []
structure DfX (P : Program) (w : World) (K : PySem.W.Frag) (mg : Str → Option Value) (base : Heap) (k : Nat) (f : Addr) (fd : FuncData) (x : Str) (ps : List Str) (sp : Sp) : Prop where
  ok : FnOk P w K mg base (L2.CX P w) k f fd ps sp
  b : Binds K fd ps []
  kp : PySem.W.keepIn K (.ref f) = true
  m : mg x = some (.ref f)
theorem scal_head (R : List Str) (z : Str) : scal (headV R) (V.str z) = true := by cases R <;> rfl
theorem pTake_one {z : Str} {R : List Str} : pTake [z] (z :: R) = .ok 1 R := if_pos (List.mem_singleton.mpr rfl)
theorem pLate_late (R : List Str) : pLate (("late" : Str) :: R) = (pNum 1 4 R).up 1 := by
  show (if ("late" : Str) = "late" then (pNum 1 4 R).up 1 else .ok 0 (("late" : Str) :: R)) = _
  rw [if_pos rfl]
theorem pLate_no {z : Str} (R : List Str) (h : ¬ z = "late") : pLate (z :: R) = .ok 0 (z :: R) := by
  show (if z = "late" then (pNum 1 4 R).up 1 else .ok 0 (z :: R)) = _
  rw [if_neg h]
theorem Rdr.ins {C : Addr} {H : Hp} {p L : Addr} {n : Nat} {R : List Str} (h : Rdr C H p L n R) : ∃ dx i, H p = some (.ins C dx (wf L i)) := h.wd.ins
theorem ok_rdTerm {f C CT gA gN gNu gT : Addr} {fd dA dN dNu : FuncData} (F : Fun K "read_term" "read_term" sReadTerm f fd) (T : WT K mg C) (MA : Mt P w K mg base C 1 gA dA "ahead" ["self"] (spAhead C)) (MN : MtX P w K mg base C 3 gN dN "take_name" ["self"] (spR C CT pName)) (MNu : MtX P w K mg base C 3 gNu dNu "take_number" ["self", "least", "most"] (spRN C CT)) (MTk : Meth K C "take" gT) (TK : FnR P w K mg base (L2.CX P w) 3 gT (spTk C CT)) (B : MT mg) : FnOk P w K mg base (L2.CX P w) 4 f fd ["words"] (spR C CT pTerm) := by
  refine F.okX scReadTerm (fun vs H Q E h => ?_) (fun cdv A outer s H vs Q E hr h => ?_)
  · obtain ⟨p, L, n, R, rfl, _⟩ := h
    rfl
  obtain ⟨p, L, n, R, rfl, rd, q⟩ := h
  obtain ⟨tf, mfac⟩ := B.fac
  obtain ⟨td, mdel⟩ := B.del
  refine ⟨_, (pss_cons (ps_set (i := 1) scReadTerm.nd rfl (by first | exact Or.inl rfl | exact Or.inr rfl) (pe_meth (pv 0) T.cl MNu.mt MNu.ok (hr.mono (by decide)) MNu.b .nil (passes_call (takes_of rfl rfl rfl rfl) fun _ _ _ _ h => h) (pa_cons (pe_un un_neg (pe_glob (v := .int 99) (by rfl) mfac ⟨_, rfl⟩)) (pa_cons (pe_glob (v := .int 99) (by rfl) mfac ⟨_, rfl⟩) pa_nil))))
 (pss_cons (ps_set (i := 2) scReadTerm.nd rfl (by first | exact Or.inl rfl | exact Or.inr rfl) (pe_meth0 (pv 0) T.cl MN.mt MN.ok (hr.mono (by decide)) MN.b .nil (passes_call (takes_of rfl rfl rfl rfl) fun _ _ _ _ h => h)))
 (pss_cons (ps_set (i := 3) scReadTerm.nd rfl (by first | exact Or.inl rfl | exact Or.inr rfl) pe_int)
 (C8.pss_cut (ps_if (pt_cmpR op_eq (pe_meth0 (pv 0) T.cl MA.mt MA.ok (hr.mono (by decide)) MA.b .nil pass0) pe_str (nomark _))
 (pss_cons (ps_expr (pe_methR (pv 0) T.cl MTk TK (hr.mono (by decide)) (passes_call (takes_of rfl rfl rfl rfl) fun _ _ _ _ h => h) (pa_cons pe_str pa_nil)))
 (pss_one (ps_set (i := 3) scReadTerm.nd rfl (by first | exact Or.inl rfl | exact Or.inr rfl) (pe_meth (pv 0) T.cl MNu.mt MNu.ok (hr.mono (by decide)) MNu.b .nil (passes_call (takes_of rfl rfl rfl rfl) fun _ _ _ _ h => h) (pa_cons pe_int (pa_cons (pe_glob (v := .int 4) (by rfl) mdel ⟨_, rfl⟩) pa_nil))))))
 pss_nil)
 (pss_one (ps_ret (pe_tup (pa_cons (pv 1) (pa_cons (pv 3) (pa_cons (pv 2) pa_nil)))))))))), ?_⟩
  obtain ⟨dx, i, h1⟩ := rd.ins
  refine ⟨_, rfl, p, dx, _, rfl, h1, lk_take_number _ _, 99, rfl, p, L, n, -99, 99, R, rfl, by decide, by decide, rd, ⟨fun j e => q.bad e, fun j R1 e1 H1 k1 r1 v1 => ?_⟩⟩
  have q1 := q.bind e1 (pNum_good _ _ R) k1 rd r1
  obtain ⟨dx1, i1, g1⟩ := r1.ins
  refine ⟨_, rfl, p, dx1, _, rfl, g1, lk_take_name _ _, p, L, n, R1, rfl, r1, ⟨fun j e => q1.bad e, fun j R2 e2 H2 k2 r2 v2 => ?_⟩⟩
  have q2 := q1.bind e2 (pName_good R1) k2 r1 r2
  obtain ⟨dx2, i2, g2⟩ := r2.ins
  refine ⟨fun σ' H3 => ∃ v3 m R3, σ' = [some (.ref p), some v1, some v2, some v3] ∧ pLate R2 = .ok m R3 ∧ Kp p H2 H3 ∧ Rdr C H3 p L n R3, ?_, ?_⟩
  · cases R2 with
    | nil =>
      refine ⟨_, rfl, p, dx2, _, rfl, g2, lk_ahead _ _, p, L, [], rfl, r2.wd, rfl, _, rfl, ?_⟩
      rw [show decide (headV [] = V.str "late") = false from decide_eq_false (fun z => by cases z)]
      exact iteF ⟨_, 0, [], rfl, rfl, Same.kp (Same.refl H2), r2⟩
    | cons z R2 =>
      refine ⟨_, rfl, p, dx2, _, rfl, g2, lk_ahead _ _, p, L, z :: R2, rfl, r2.wd, rfl, _, rfl, ?_⟩
      by_cases hz : z = "late"
      · subst hz
        have q3 := q2
        rw [pLate_late] at q3
        rw [show decide (headV (("late" : Str) :: R2) = V.str "late") = true from decide_eq_true rfl]
        refine iteT ⟨_, rfl, p, dx2, _, rfl, g2, lk_take _ _, p, L, n, ["late"], _, rfl, by decide, r2, fun m e => ?_, fun z R' H3 ez hz k3 r3 => ?_⟩
        · rw [pTake_one] at e
          cases e
        have e' := (List.cons.inj ez).2
        subst e'
        have q4 := q3.step k3 r2 r3
        obtain ⟨dx3, i3, g3⟩ := r3.ins
        refine ⟨_, rfl, p, dx3, _, rfl, g3, lk_take_number _ _, p, L, n, 1, 4, R2, rfl, by decide, by decide, r3, ⟨fun j e => q4.er j e, fun j R4 e4 H4 k4 r4 v4 => ?_⟩⟩
        exact ⟨v4, 1 + j, R4, rfl, by rw [pLate_late, e4]; rfl, k3.trans k4, r4⟩
      · rw [show decide (headV (z :: R2) = V.str "late") = false from decide_eq_false (fun e => hz (V.str.inj e))]
        exact iteF ⟨_, 0, z :: R2, rfl, pLate_no R2 hz, Same.kp (Same.refl H2), r2⟩
  · rintro σ' H3 ⟨v3, m, R3, rfl, e3, k3, r3⟩
    refine ⟨_, rfl, _, rfl, _, rfl, (by show 3 ≤ sizeLine; decide), fun x hx => ?_⟩
    exact q2.ok m R3 e3 _ (k3.trans (Same.kp (same_upd hx _))) (r3.same (same_upd hx _)) _
/-! the same, at the heap where it began -/
theorem Cont.bind0 {C CT p L : Addr} {n m : Nat} {x : RR} {f : List Str → RR} {R R1 : List Str} {H : Hp} {Q : V → Hp → Prop} {E : XK} (h : Cont C CT p L n (x.bind f) R H Q E) (e : x = .ok m R1) (g : x.good R) (le : R.length ≤ n) : Cont C CT p L n (f R1) R1 H Q E := by
  subst e
  obtain ⟨g1, g2⟩ := (show m ≤ R.length ∧ R1 = R.drop m from g)
  have l1 : R1.length = R.length - m := by rw [g2, List.length_drop]
  refine ⟨fun j e => ?_, fun j R' e H' k' rd' v => h.ok (m + j) R' (by show (f R1).up m = _; rw [e]; rfl) H' k' rd' v⟩
  have := h.er (m + j) (by show (f R1).up m = _; rw [e]; rfl)
  rw [show n - R1.length + j = n - R.length + (m + j) by omega]
  exact this
theorem Cont.step0 {C CT p L : Addr} {n : Nat} {x : RR} {z : Str} {R : List Str} {H : Hp} {Q : V → Hp → Prop} {E : XK} (h : Cont C CT p L n (x.up 1) (z :: R) H Q E) (le : (z :: R).length ≤ n) : Cont C CT p L n x R H Q E := by
  rw [List.length_cons] at le
  refine ⟨fun j e => ?_, fun j R' e H' k' rd' v => h.ok (1 + j) R' (by rw [e]; rfl) H' k' rd' v⟩
  have := h.er (1 + j) (by rw [e]; rfl)
  rw [List.length_cons] at this
  rw [show n - R.length + j = n - (R.length + 1) + (1 + j) by omega]
  exact this
theorem pMore_comma (k : Nat) (R : List Str) : pMore (k + 1) (("," : Str) :: R) = ((pTerm R).bind (pMore k)).up 1 := by
  show (if ("," : Str) = "," then ((pTerm R).bind (pMore k)).up 1 else .ok 0 (("," : Str) :: R)) = _
  rw [if_pos rfl]
theorem pMore_no {k : Nat} {z : Str} {R : List Str} (h : ¬ z = ",") : pMore k (z :: R) = .ok 0 (z :: R) := by
  cases k with
  | zero => rfl
  | succ k =>
    show (if z = "," then ((pTerm R).bind (pMore k)).up 1 else .ok 0 (z :: R)) = _
    rw [if_neg h]
theorem pMore_nil {k : Nat} : pMore k [] = .ok 0 [] := by cases k <;> rfl
theorem pTerms_semi (R : List Str) : pTerms ((";" : Str) :: R) = .ok 0 ((";" : Str) :: R) := by
  show (if (";" : Str) = ";" then RR.ok 0 ((";" : Str) :: R) else (pTerm ((";" : Str) :: R)).bind (pMore 5)) = _
  rw [if_pos rfl]
theorem pTerms_no {R : List Str} (h : ¬ headV R = V.str ";") : pTerms R = (pTerm R).bind (pMore 5) := by
  cases R with
  | nil => rfl
  | cons z R =>
    show (if z = ";" then RR.ok 0 (z :: R) else (pTerm (z :: R)).bind (pMore 5)) = _
    rw [if_neg (fun e => h (congrArg V.str e))]
theorem ok_rdTerms {f C CT gA gT gD : Addr} {fd dA dD : FuncData} (F : Fun K "read_terms" "read_terms" sReadTerms f fd) (T : WT K mg C) (MA : Mt P w K mg base C 1 gA dA "ahead" ["self"] (spAhead C)) (MTk : Meth K C "take" gT) (TK : FnR P w K mg base (L2.CX P w) 3 gT (spTk C CT)) (DT : DfX P w K mg base 4 gD dD "read_term" ["words"] (spR C CT pTerm)) (B : MT mg) (mtuple : mg "tuple" = none) : FnOk P w K mg base (L2.CX P w) 5 f fd ["words"] (spR C CT pTerms) := by
  refine F.okX scReadTerms (fun vs H Q E h => ?_) (fun cdv A outer s H vs Q E hr h => ?_)
  · obtain ⟨p, L, n, R, rfl, _⟩ := h
    rfl
  obtain ⟨p, L, n, R, rfl, rd, q⟩ := h
  obtain ⟨tm, mtms⟩ := B.tms
  refine ⟨_, (pss_cons (ps_if (pt_cmpR op_eq (pe_meth0 (pv 0) T.cl MA.mt MA.ok (hr.mono (by decide)) MA.b .nil pass0) pe_str (nomark _))
 (pss_one (ps_ret (pe_tup pa_nil)))
 pss_nil)
 (pss_cons (ps_set (i := 1) scReadTerms.nd rfl (by first | exact Or.inl rfl | exact Or.inr rfl) (pe_lst (pa_cons (pe_callS DT.ok (hr.mono (by decide)) (by rfl) DT.m DT.kp DT.b (fun σ => passAt (takes_of rfl rfl rfl rfl) σ) (pa_cons (pv 0) pa_nil)) pa_nil)))
 (C8.pss_cut (ps_while (passes_of rfl) (PW.pt (pw_and (pt_cmpR op_eq (pe_meth0 (pv 0) T.cl MA.mt MA.ok (hr.mono (by decide)) MA.b .nil pass0) pe_str (nomark _)) (pw_and1 (pt_cmpR op_lt (pe_callB call_len_seq (by rfl) T.len PySem.boot_len (pa_cons (pv 1) pa_nil)) (pe_glob (v := .int 6) (by rfl) mtms ⟨_, rfl⟩) (nomark _)))))
 (pss_cons (ps_expr (pe_methR (pv 0) T.cl MTk TK (hr.mono (by decide)) (passes_call (takes_of rfl rfl rfl rfl) fun _ _ _ _ h => h) (pa_cons pe_str pa_nil)))
 (pss_one (ps_expr (pe_bm PySem.F.plainAttrs_list PySem.F.slot_list_append PySem.F.type_list_append mt_append (pv 1) (pa_cons (pe_callS DT.ok (hr.mono (by decide)) (by rfl) DT.m DT.kp DT.b (fun σ => passAt (takes_of rfl rfl rfl rfl) σ) (pa_cons (pv 0) pa_nil)) pa_nil))))))
 (pss_one (ps_ret (pe_callTy call_tuple_of (by rfl) mtuple (by decide +kernel) (pa_cons (pv 1) pa_nil))))))), ?_⟩
  obtain ⟨dx, i, h1⟩ := rd.ins
  refine ⟨_, rfl, p, dx, _, rfl, h1, lk_ahead _ _, p, L, R, rfl, rd.wd, scal_head _ _, _, rfl, ?_⟩
  by_cases hs : headV R = V.str ";"
  · rw [decide_eq_true hs]
    refine iteT ⟨Nat.zero_le _, fun x hx => ?_⟩
    cases R with
    | nil => cases hs
    | cons z R =>
      have e : z = ";" := V.str.inj hs
      subst e
      exact q.ok 0 _ (pTerms_semi R) _ (Same.kp (same_upd hx _)) (rd.same (same_upd hx _)) _
  rw [decide_eq_false hs]
  rw [pTerms_no hs] at q
  refine iteF ⟨_, rfl, p, L, n, R, rfl, rd, ⟨fun j e => q.bad e, fun j R1 e1 H1 k1 r1 v1 => ?_⟩⟩
  have q1 := q.bind e1 (pTerm_good R) k1 rd r1
  refine ⟨(by show 1 ≤ sizeLine; decide), fun D hD => ?_⟩
  have nDp : D ≠ p := by
    obtain ⟨_, _, h⟩ := r1.ins
    exact (ne_of_none h hD).symm
  have s1 := same_upd hD (.lst [v1])
  refine ⟨fun σ' H2 => ∃ us R2, σ' = [some (.ref p), some (.ref D)] ∧ Kp p H1 H2 ∧ H2 D = some (.lst us) ∧ Rdr C H2 p L n R2 ∧ ∀ H', Kp p H1 H' → Rdr C H' p L n R2 → ∀ v, Q v H', ?_, ?_⟩
  · refine ⟨fun m σ' H2 => ∃ us R2, us.length + m = 6 ∧ σ' = [some (.ref p), some (.ref D)] ∧ Kp p H1 H2 ∧ H2 D = some (.lst us) ∧ Rdr C H2 p L n R2 ∧ Cont C CT p L n (pMore m R2) R2 H1 Q E, ⟨5, [v1], R1, rfl, rfl, Same.kp s1, upd_same, r1.same s1, q1⟩, ?_⟩
    rintro m σ' H2 ⟨us, R2, hl, rfl, k2, hD2, r2, q2⟩
    obtain ⟨dx2, i2, g2⟩ := r2.ins
    refine ⟨_, rfl, p, dx2, _, rfl, g2, lk_ahead _ _, p, L, R2, rfl, r2.wd, scal_head _ _, _, rfl, ?_⟩
    by_cases hc : headV R2 = V.str ","
    · rw [decide_eq_true hc]
      refine iteT ?_
      refine ⟨_, rfl, D, _, rfl, .inl (SqL.of hD2), _, _, rfl, rfl, _, rfl, ?_⟩
      cases m with
      | zero =>
        rw [decide_eq_false (by omega)]
        exact iteF ⟨us, R2, rfl, k2, hD2, r2, fun H' k' r' v => q2.ok 0 R2 rfl H' k' r' v⟩
      | succ m =>
        rw [decide_eq_true (by omega)]
        cases R2 with
        | nil => cases hc
        | cons z R2 =>
          have e : z = "," := V.str.inj hc
          subst e
          rw [pMore_comma] at q2
          have q3 := q2.step0 r2.le
          refine iteT ⟨fun σ' H4 => ∃ us R2, us.length + m = 6 ∧ σ' = [some (.ref p), some (.ref D)] ∧ Kp p H1 H4 ∧ H4 D = some (.lst us) ∧ Rdr C H4 p L n R2 ∧ Cont C CT p L n (pMore m R2) R2 H1 Q E, fun σ' H4 h => ⟨m, by omega, h⟩, ?_⟩
          refine ⟨_, rfl, p, dx2, _, rfl, g2, lk_take _ _, p, L, n, [","], _, rfl, by decide, r2, fun m e => ?_, fun z R' H3 ez hz k3 r3 => ?_⟩
          · rw [pTake_one] at e
            cases e
          have e' := (List.cons.inj ez).2
          subst e'
          obtain ⟨dx3, i3, g3⟩ := r3.ins
          have hD3 := k3 _ _ hD2 nDp
          refine ⟨_, rfl, .inl ⟨rfl, _, SqL.of hD3⟩, _, rfl, p, L, n, R2, rfl, r3, ⟨fun j e => (q3.bad e).to (k2.trans k3) g3, fun j R4 e4 H4 k4 r4 v4 => ?_⟩⟩
          have hD4 := k4 _ _ hD3 nDp
          refine ⟨D, _, _, rfl, rfl, hD4, small1000 (by omega), ?_⟩
          have w4 : Rdr C (upd H4 D (.lst (us ++ [v4]))) p L n R4 := by
            obtain ⟨dx5, W5, e1, e2, e3, e5, e6, e7, e8⟩ := r4.at_
            have nLD : L ≠ D := by
              obtain ⟨_, W1, _, h, _⟩ := r1.at_
              exact ne_of_none h hD
            exact ⟨⟨dx5, W5, n - R4.length, by rw [upd_ne nDp.symm]; exact e1, by rw [upd_ne nLD]; exact e2, e3, by omega, e5⟩, W5, by rw [upd_ne nLD]; exact e2, e7, e8⟩
          refine ⟨us ++ [v4], R4, by rw [List.length_append, List.length_singleton]; omega, rfl, fun a o e na => ?_, upd_same, w4, q3.bind0 e4 (pTerm_good R2) r3.le⟩
          rw [upd_ne (ne_of_none e hD)]
          exact k4 a o (k3 a o (k2 a o e na) na) na
    · rw [decide_eq_false hc]
      refine iteF ⟨us, R2, rfl, k2, hD2, r2, fun H' k' r' v => ?_⟩
      cases R2 with
      | nil => exact q2.ok 0 [] pMore_nil H' k' r' v
      | cons z R2 => exact q2.ok 0 _ (pMore_no (fun e => hc (congrArg V.str e))) H' k' r' v
  · rintro σ' H2 ⟨us, R2, rfl, k2, hD2, r2, q2⟩
    refine ⟨_, rfl, D, _, rfl, .inl ⟨SqL.of hD2, fun x hx => ?_⟩⟩
    exact q2 _ (k2.trans (Same.kp (same_upd hx _))) (r2.same (same_upd hx _)) _
theorem pTake_er {cs R : List Str} {m : Nat} (h : pTake cs R = .er m) : m = 0 ∧ ∀ z R', R = z :: R' → ¬ z ∈ cs := by
  cases R with
  | nil =>
    cases h
    exact ⟨rfl, fun z R' e => by cases e⟩
  | cons z R =>
    have h : (if z ∈ cs then RR.ok 1 R else .er 0) = .er m := h
    by_cases hz : z ∈ cs
    · rw [if_pos hz] at h
      cases h
    · rw [if_neg hz] at h
      cases h
      exact ⟨rfl, fun y R' e => by rw [← (List.cons.inj e).1]; exact hz⟩
theorem pKind_er {R : List Str} {m : Nat} (h : pTake kinds7 R = .er m) : pKind R = .er m := by
  obtain ⟨rfl, h'⟩ := pTake_er h
  cases R with
  | nil => rfl
  | cons z R => exact if_neg (h' z R rfl)
theorem pKind_ok {z : Str} {R : List Str} (h : z ∈ kinds7) : pKind (z :: R) = (pTail z R).up 1 := if_pos h
/-- the names that stand first, at most k of them -/
theorem names_split : ∀ (k : Nat) (R : List Str), (∀ z ∈ R, WC z) → ∃ ns, R = ns ++ R.drop (pNames k R) ∧ (∀ z ∈ ns, IsNm z) ∧ ns.length = pNames k R ∧ ns.length ≤ k ∧ (ns.length < k → NoNm (R.drop (pNames k R)))
  | 0, R, _ => ⟨[], by cases R <;> rfl, (fun z h => absurd h (List.not_mem_nil)), by cases R <;> rfl, Nat.zero_le _, fun h => absurd h (by decide)⟩
  | k + 1, [], _ => ⟨[], rfl, (fun z h => absurd h (List.not_mem_nil)), rfl, Nat.zero_le _, fun _ => trivial⟩
  | k + 1, z :: R, w => by
    have e : pNames (k + 1) (z :: R) = if nameB z = true then pNames k R + 1 else 0 := rfl
    cases hz : nameB z with
    | true =>
      rw [hz, if_pos rfl] at e
      obtain ⟨ns, h1, h2, h3, h4, h5⟩ := names_split k R (fun y hy => w y (List.mem_cons_of_mem _ hy))
      refine ⟨z :: ns, ?_, ?_, ?_, ?_, ?_⟩
      · rw [e, List.drop_succ_cons, List.cons_append, ← h1]
      · intro y hy
        rcases List.mem_cons.mp hy with rfl | hy
        · exact nameB_nm hz
        · exact h2 y hy
      · rw [e, List.length_cons, h3]
      · rw [List.length_cons]; omega
      · intro hl
        rw [List.length_cons] at hl
        rw [e, List.drop_succ_cons]
        exact h5 (by omega)
    | false =>
      rw [hz, if_neg (by decide)] at e
      refine ⟨[], by rw [e]; rfl, (fun z h => absurd h (List.not_mem_nil)), by rw [e]; rfl, Nat.zero_le _, fun _ => ?_⟩
      rw [e]
      exact ⟨hz, by have := (w z List.mem_cons_self).len; omega⟩
theorem ok_rdPart {f C CT gA gN gNs gT gD : Addr} {fd dA dN dNs dD : FuncData} (F : Fun K "read_part" "read_part" sReadPart f fd) (T : WT K mg C) (MA : Mt P w K mg base C 1 gA dA "ahead" ["self"] (spAhead C)) (MN : MtX P w K mg base C 3 gN dN "take_name" ["self"] (spR C CT pName)) (MNs : Mt P w K mg base C 3 gNs dNs "take_names" ["self", "most"] (spTakeNames C)) (MTk : Meth K C "take" gT) (TK : FnR P w K mg base (L2.CX P w) 3 gT (spTk C CT)) (DTs : DfX P w K mg base 5 gD dD "read_terms" ["words"] (spR C CT pTerms)) (B : MT mg) : FnOk P w K mg base (L2.CX P w) 6 f fd ["words"] (spR C CT pPart) := by
  refine F.okX scReadPart (fun vs H Q E h => ?_) (fun cdv A outer s H vs Q E hr h => ?_)
  · obtain ⟨p, L, n, R, rfl, _⟩ := h
    rfl
  obtain ⟨p, L, n, R, rfl, rd, q⟩ := h
  obtain ⟨te, mends⟩ := B.ends
  refine ⟨_, (pss_cons (ps_set (i := 1) scReadPart.nd rfl (by first | exact Or.inl rfl | exact Or.inr rfl) (pe_meth0 (pv 0) T.cl MN.mt MN.ok (hr.mono (by decide)) MN.b .nil (passes_call (takes_of rfl rfl rfl rfl) fun _ _ _ _ h => h)))
 (pss_cons (ps_set (i := 2) scReadPart.nd rfl (by first | exact Or.inl rfl | exact Or.inr rfl) (pe_methR (pv 0) T.cl MTk TK (hr.mono (by decide)) (passes_call (takes_of rfl rfl rfl rfl) fun _ _ _ _ h => h) (pa_cons pe_str (pa_cons pe_str (pa_cons pe_str (pa_cons pe_str (pa_cons pe_str (pa_cons pe_str (pa_cons pe_str pa_nil)))))))))
 (pss_cons (ps_if (pt_cmpR op_eq (pv 2) pe_str (nomark _))
 (pss_one (ps_ret (pe_tup (pa_cons (pv 2) (pa_cons (pv 1) pa_nil)))))
 pss_nil)
 (pss_cons (ps_if (pt_cmpR op_eq (pv 2) pe_str (nomark _))
 (pss_one (ps_ret (pe_tup (pa_cons (pv 2) (pa_cons (pv 1) (pa_cons (pe_callS DTs.ok (hr.mono (by decide)) (by rfl) DTs.m DTs.kp DTs.b (fun σ => passAt (takes_of rfl rfl rfl rfl) σ) (pa_cons (pv 0) pa_nil)) pa_nil))))))
 pss_nil)
 (pss_cons (ps_set (i := 3) scReadPart.nd rfl (by first | exact Or.inl rfl | exact Or.inr rfl) (pe_meth0 (pv 0) T.cl MN.mt MN.ok (hr.mono (by decide)) MN.b .nil (passes_call (takes_of rfl rfl rfl rfl) fun _ _ _ _ h => h)))
 (pss_cons (ps_if (pt_cmpR op_eq (pv 2) pe_str (nomark _))
 (pss_one (ps_ret (pe_tup (pa_cons (pv 2) (pa_cons (pv 1) (pa_cons (pv 3) (pa_cons (pe_meth (pv 0) T.cl MNs.mt MNs.ok (hr.mono (by decide)) MNs.b .nil pass0 (pa_cons (pe_glob (v := .int 4) (by rfl) mends ⟨_, rfl⟩) pa_nil)) pa_nil)))))))
 pss_nil)
 (pss_cons (ps_set (i := 4) scReadPart.nd rfl (by first | exact Or.inl rfl | exact Or.inr rfl) (pe_meth0 (pv 0) T.cl MN.mt MN.ok (hr.mono (by decide)) MN.b .nil (passes_call (takes_of rfl rfl rfl rfl) fun _ _ _ _ h => h)))
 (pss_cons (ps_if (pt_cmpR op_eq (pv 2) pe_str (nomark _))
 (pss_one (ps_ret (pe_tup (pa_cons (pv 2) (pa_cons (pv 1) (pa_cons (pv 3) (pa_cons (pv 4) (pa_cons (pe_meth0 (pv 0) T.cl MN.mt MN.ok (hr.mono (by decide)) MN.b .nil (passes_call (takes_of rfl rfl rfl rfl) fun _ _ _ _ h => h)) pa_nil))))))))
 pss_nil)
 (pss_one (ps_ret (pe_tup (pa_cons (pv 2) (pa_cons (pv 1) (pa_cons (pv 3) (pa_cons (pv 4) pa_nil))))))))))))))), ?_⟩
  obtain ⟨dx, i, h1⟩ := rd.ins
  refine ⟨_, rfl, p, dx, _, rfl, h1, lk_take_name _ _, p, L, n, R, rfl, rd, ⟨fun j e => q.bad e, fun j R1 e1 H1 k1 r1 v1 => ?_⟩⟩
  have q1 := q.bind e1 (pName_good R) k1 rd r1
  obtain ⟨dx1, i1, g1⟩ := r1.ins
  refine ⟨_, rfl, p, dx1, _, rfl, g1, lk_take _ _, p, L, n, kinds7, R1, rfl, by decide, r1, fun m e => q1.er m (pKind_er e), fun k R2 H2 ez hz k2 r2 => ?_⟩
  subst ez
  rw [pKind_ok hz] at q1
  have q2 := q1.step k2 r1 r2
  obtain ⟨dx2, i2, g2⟩ := r2.ins
  refine ⟨_, rfl, rfl, _, rfl, ?_⟩
  by_cases c1 : k = "source"
  · subst c1
    rw [decide_eq_true rfl]
    refine iteT ⟨_, rfl, _, rfl, (by show 2 ≤ sizeLine; decide), fun x hx => ?_⟩
    exact q2.ok 0 R2 rfl _ (Same.kp (same_upd hx _)) (r2.same (same_upd hx _)) _
  rw [decide_eq_false (fun z => c1 (V.str.inj z))]
  refine iteF ⟨_, rfl, rfl, _, rfl, ?_⟩
  by_cases c2 : k = "mix"
  · subst c2
    rw [decide_eq_true rfl]
    have e : pTail ("mix" : Str) R2 = pTerms R2 := by
      unfold pTail
      rw [if_neg c1, if_pos rfl]
    rw [e] at q2
    refine iteT ⟨_, rfl, _, rfl, _, rfl, p, L, n, R2, rfl, r2, ⟨fun j e => q2.er j e, fun j R3 e3 H3 k3 r3 v3 => ?_⟩⟩
    refine ⟨(by show 3 ≤ sizeLine; decide), fun x hx => ?_⟩
    exact q2.ok j R3 e3 _ (k3.trans (Same.kp (same_upd hx _))) (r3.same (same_upd hx _)) _
  rw [decide_eq_false (fun z => c2 (V.str.inj z))]
  have e : pTail k R2 = (pName R2).bind fun R1 => if k = "use" then .ok (pNames 4 R1) (R1.drop (pNames 4 R1))
    else (pName R1).bind fun R2 => if k = "pair" then pName R2 else .ok 0 R2 := by
    unfold pTail
    rw [if_neg c1, if_neg c2]
  rw [e] at q2
  refine iteF ⟨_, rfl, p, dx2, _, rfl, g2, lk_take_name _ _, p, L, n, R2, rfl, r2, ⟨fun j e => q2.bad e, fun j R3 e3 H3 k3 r3 v3 => ?_⟩⟩
  have q3 := q2.bind e3 (pName_good R2) k3 r2 r3
  obtain ⟨dx3, i3, g3⟩ := r3.ins
  refine ⟨_, rfl, rfl, _, rfl, ?_⟩
  by_cases c3 : k = "use"
  · subst c3
    rw [decide_eq_true rfl]
    rw [if_pos rfl] at q3
    obtain ⟨ns, n1, n2, n3, n4, n5⟩ := names_split 4 R3 r3.wc
    have w3 := r3.wd
    rw [n1] at w3
    refine iteT ⟨_, rfl, _, rfl, _, rfl, _, rfl, p, dx3, _, rfl, g3, lk_take_names _ _, p, L, 4, ns, _, rfl, n2, by omega, by omega, fun h => n5 (by omega), w3, fun b H4 w4 k4 hb0 hb => ?_⟩
    have r4 := r3.kp w4 k4
    refine ⟨(by show 4 ≤ sizeLine; decide), fun x hx => ?_⟩
    exact q3.ok _ _ rfl _ (k4.trans (Same.kp (same_upd hx _))) (r4.same (same_upd hx _)) _
  rw [decide_eq_false (fun z => c3 (V.str.inj z))]
  rw [if_neg c3] at q3
  refine iteF ⟨_, rfl, p, dx3, _, rfl, g3, lk_take_name _ _, p, L, n, R3, rfl, r3, ⟨fun j e => q3.bad e, fun j R4 e4 H4 k4 r4 v4 => ?_⟩⟩
  have q4 := q3.bind e4 (pName_good R3) k4 r3 r4
  obtain ⟨dx4, i4, g4⟩ := r4.ins
  refine ⟨_, rfl, rfl, _, rfl, ?_⟩
  by_cases c4 : k = "pair"
  · subst c4
    rw [decide_eq_true rfl]
    rw [if_pos rfl] at q4
    refine iteT ⟨_, rfl, _, rfl, _, rfl, _, rfl, _, rfl, p, dx4, _, rfl, g4, lk_take_name _ _, p, L, n, R4, rfl, r4, ⟨fun j e => q4.er j e, fun j R5 e5 H5 k5 r5 v5 => ?_⟩⟩
    refine ⟨(by show 5 ≤ sizeLine; decide), fun x hx => ?_⟩
    exact q4.ok j R5 e5 _ (k5.trans (Same.kp (same_upd hx _))) (r5.same (same_upd hx _)) _
  rw [decide_eq_false (fun z => c4 (V.str.inj z))]
  rw [if_neg c4] at q4
  refine iteF ⟨_, rfl, _, rfl, _, rfl, _, rfl, (by show 4 ≤ sizeLine; decide), fun x hx => ?_⟩
  exact q4.ok 0 R4 rfl _ (Same.kp (same_upd hx _)) (r4.same (same_upd hx _)) _
theorem pNet_no {m : Nat} {R : List Str} (h : ¬ headV R = V.str ">") : pNet (m + 1) R = (pPart R).bind (pSemi (pNet m)) := by
  cases R with
  | nil => rfl
  | cons z R =>
    show (if z = ">" then (pEnd R).up 1 else (pPart (z :: R)).bind (pSemi (pNet m))) = _
    rw [if_neg (fun e => h (congrArg V.str e))]
theorem pNet_gt {m : Nat} {R : List Str} : pNet (m + 1) ((">" : Str) :: R) = (pEnd R).up 1 := by
  show (if (">" : Str) = ">" then (pEnd R).up 1 else (pPart ((">" : Str) :: R)).bind (pSemi (pNet m))) = _
  rw [if_pos rfl]
theorem up_er {x : RR} {m j : Nat} (h : x.up m = .er j) : ∃ i, x = .er i ∧ j = m + i := by
  cases x with
  | ok n r => cases h
  | er n =>
    cases h
    exact ⟨n, rfl, rfl⟩
theorem bind_er {x : RR} {f : List Str → RR} {R : List Str} {j : Nat} (h : x.bind f = .er j) : x = .er j ∨ ∃ n r i, x = .ok n r ∧ f r = .er i ∧ j = n + i := by
  cases x with
  | er n =>
    cases h
    exact .inl rfl
  | ok n r =>
    obtain ⟨i, h1, h2⟩ := up_er (show (f r).up n = .er j from h)
    exact .inr ⟨n, r, i, rfl, h1, h2⟩
theorem XkE.rd {x CT : Addr} {k : Nat} {H H1 : Hp} {E : XK} (h : XkE CT [("word", .int (k : Nat)), ("code", .str "InvalidText")] H E) (s : Same H H1) (nx : H x = none) : XkT x CT k H1 E := fun d H' k' hd hd' => h d H' (fun a o e => k' a o (s _ _ e) (ne_of_none e nx)) (s.free hd) hd'
def spWInitR (C : Addr) : Sp := fun vs H Q _ => ∃ (p dx : Addr) (s : Str), vs = [.ref p, .str s] ∧ H p = some (.ins C dx []) ∧ s.length ≤ 100000 ∧ ∀ L H', H L = none → H' p = some (.ins C dx (wf L 0)) → H' L = some (.lst ((Txt.split s " ").map V.str)) → Kp p H H' → Q .non H'
theorem ok_winitR {f C : Addr} {fd : FuncData} (F : Fun K "__init__" "Words.__init__" sWInit f fd) (T : WT K mg C) : FnOk P w K mg base CX0 1 f fd ["self", "text"] (spWInitR C) := by
  refine F.ok scWInit (fun vs H Q E h => ?_) (fun cdv A outer s H vs Q E hr h => ?_)
  · obtain ⟨p, dx, s, rfl, _⟩ := h
    rfl
  obtain ⟨p, dx, z, rfl, hp, hz, q⟩ := h
  refine ⟨_, pss_cons (ps_fld (pv 0) (pe_split (pv 1) pe_str) rfl) (pss_one (ps_fld (pv 0) pe_int rfl)), ?_⟩
  have h1 : (200000 : Nat) ≤ sizeLine := by decide
  refine ⟨_, rfl, ⟨_, rfl⟩, z, " ", rfl, rfl, by decide +kernel, by omega, fun L hL => ?_⟩
  have n : p ≠ L := ne_of_none hp hL
  refine ⟨_, rfl, p, C, dx, [], rfl, by rw [upd_ne n]; exact hp, T.cl, T.nW, (by show 0 < 1000; decide), ?_⟩
  refine ⟨_, rfl, p, C, dx, _, rfl, upd_same, T.cl, T.nA, (by show 1 < 1000; decide), ?_⟩
  refine q L _ hL upd_same ?_ fun a o e na => ?_
  · rw [upd_ne n.symm, upd_ne n.symm, upd_same]
  · rw [upd_ne na, upd_ne na, upd_ne (ne_of_none e hL)]
    exact e
def spNetB (K : PySem.W.Frag) (CT : Addr) : Sp := fun vs H Q E => (∃ (s : Str) (k : Nat), vs = [.str s] ∧ s.length ≤ 100000 ∧ (Txt.split s " ").length ≤ 2000 ∧ (∀ z ∈ Txt.split s " ", WC z) ∧ pNet ((Txt.split s " ").length + 1) (Txt.split s " ") = .er k ∧ XkE CT [("word", .int (k : Nat)), ("code", .str "InvalidText")] H E) ∨
  (∃ (v : V) (t : String), vs = [v] ∧ TyX K H v (.type t) ∧ kitB t "str" = some false ∧ XkE CT [("word", .int ((0 : Nat) : Int)), ("code", .str "InvalidText")] H E)
theorem ok_netBad {f C CT fT f0 gA gN gNs gT gD : Addr} {fd dT d0 dA dN dNs dD : FuncData} {gX : List Value → List Value → List Value} (F : Fun K "read_net" "read_net" sReadNet f fd) (T : WT K mg C) (N : NameTxt mg) (MA : Mt P w K mg base C 1 gA dA "ahead" ["self"] (spAhead C)) (MN : MtX P w K mg base C 3 gN dN "take_name" ["self"] (spR C CT pName)) (MNs : Mt P w K mg base C 3 gNs dNs "take_names" ["self", "most"] (spTakeNames C)) (MTk : Meth K C "take" gT) (TK : FnR P w K mg base (L2.CX P w) 3 gT (spTk C CT)) (mkW : Mk K C f0) (mW : mg "Words" = some (.ref C))
    (okW : FnOk P w K mg base CX0 1 f0 d0 ["self", "text"] (spWInitR C)) (bW : Binds K d0 ["self", "text"] []) (DP : DfX P w K mg base 6 gD dD "read_part" ["words"] (spR C CT pPart)) (XT : Xr P w K mg base CT 1 fT dT "InvalidText" ["self", "word"] (spI1 CT "InvalidText" "word") gX) (B : MT mg) (mtuple : mg "tuple" = none) : FnOk P w K mg base (L2.CX P w) 7 f fd ["text"] (spNetB K CT) := by
  refine F.okX scReadNet (fun vs H Q E h => ?_) (fun cdv A outer s H vs Q E hr h => ?_)
  · rcases h with ⟨s, k, rfl, _⟩ | ⟨v, t, rfl, _⟩ <;> rfl
  obtain ⟨to, mouts⟩ := B.outs
  have misi := N.isi
  have mstr := N.str
  refine ⟨_, (pss_cons (ps_if (pt_not (pt_val (pe_callB call_isi (by rfl) misi (by decide +kernel) (pa_cons (pv 0) (pa_cons (pe_bltn (v := .ty "str") (by rfl) mstr (by decide +kernel) rfl) pa_nil)))))
 (pss_one (ps_raise rfl (takes_of rfl rfl rfl rfl) (ExR.pmk_exo rfl (pe_mkG XT.x (hr.mono (by decide)) (by rfl) XT.kb (pa_cons pe_int pa_nil)))))
 pss_nil)
 (pss_cons (ps_set (i := 1) scReadNet.nd rfl (by first | exact Or.inl rfl | exact Or.inr rfl) (pe_make mkW okW (hr.mono (by decide)) (by rfl) mW bW .nil pass0 (pa_cons (pv 0) pa_nil)))
 (pss_cons (ps_set (i := 2) scReadNet.nd rfl (by first | exact Or.inl rfl | exact Or.inr rfl) (pe_lst pa_nil))
 (C8.pss_cut (ps_while (passes_of rfl) (pt_cmpR op_ne (pe_meth0 (pv 1) T.cl MA.mt MA.ok (hr.mono (by decide)) MA.b .nil pass0) pe_str (nomark _))
 (pss_cons (ps_expr (pe_bm PySem.F.plainAttrs_list PySem.F.slot_list_append PySem.F.type_list_append mt_append (pv 2) (pa_cons (pe_callS DP.ok (hr.mono (by decide)) (by rfl) DP.m DP.kp DP.b (fun σ => passAt (takes_of rfl rfl rfl rfl) σ) (pa_cons (pv 1) pa_nil)) pa_nil)))
 (pss_one (ps_expr (pe_methR (pv 1) T.cl MTk TK (hr.mono (by decide)) (passes_call (takes_of rfl rfl rfl rfl) fun _ _ _ _ h => h) (pa_cons pe_str pa_nil))))))
 (pss_cons (ps_expr (pe_methR (pv 1) T.cl MTk TK (hr.mono (by decide)) (passes_call (takes_of rfl rfl rfl rfl) fun _ _ _ _ h => h) (pa_cons pe_str pa_nil)))
 (pss_cons (ps_set (i := 3) scReadNet.nd rfl (by first | exact Or.inl rfl | exact Or.inr rfl) (pe_meth0 (pv 1) T.cl MN.mt MN.ok (hr.mono (by decide)) MN.b .nil (passes_call (takes_of rfl rfl rfl rfl) fun _ _ _ _ h => h)))
 (pss_cons (ps_set (i := 4) scReadNet.nd rfl (by first | exact Or.inl rfl | exact Or.inr rfl) (pe_meth (pv 1) T.cl MNs.mt MNs.ok (hr.mono (by decide)) MNs.b .nil pass0 (pa_cons (pe_op op_sub (pe_glob (v := .int 4) (by rfl) mouts ⟨_, rfl⟩) pe_int) pa_nil)))
 (pss_cons (ps_if (pt_cmpR op_notN (pe_meth0 (pv 1) T.cl MA.mt MA.ok (hr.mono (by decide)) MA.b .nil pass0) pe_non (nomark _))
 (pss_one (ps_raise rfl (takes_of rfl rfl rfl rfl) (ExR.pmk_exo rfl (pe_mkG XT.x (hr.mono (by decide)) (by rfl) XT.kb (pa_cons (pe_fld (pv 1) rfl) pa_nil)))))
 pss_nil)
 (pss_one (ps_ret (pe_tup (pa_cons (pe_callTy call_tuple_of (by rfl) mtuple (by decide +kernel) (pa_cons (pv 2) pa_nil)) (pa_cons (pe_tup (pa_cons (pv 3) (StX.pa_star (pv 4) pa_nil))) pa_nil))))))))))))), ?_⟩
  rcases h with ⟨z, k0, rfl, hz, hl, hw, hk, q⟩ | ⟨v, t, rfl, ty, kb, q⟩
  · have h1 : (200000 : Nat) ≤ sizeLine := by decide
    refine ⟨_, rfl, _, _, _, _, true, rfl, .ty _, .base (.str _), kit_ty (by decide +kernel), _, rfl, iteF ?_⟩
    refine ⟨_, rfl, fun x dx nx ndx nex => ?_⟩
    have s0 : Same H (upd (upd H dx (.own x)) x (.ins C dx [])) := fun b o e => by
      rw [upd_ne (ne_of_none e nx), upd_ne (ne_of_none e ndx)]
      exact e
    refine ⟨x, dx, _, rfl, upd_same, hz, fun L H1 hL0 e1 e2 k1 => ⟨rfl, ?_⟩⟩
    have s1 : Same H H1 := Same.wd s0 nx k1
    generalize hW : Txt.split z " " = W at hl hw hk e2
    have r1 : Rdr C H1 x L W.length W := ⟨⟨dx, W, 0, e1, e2, hl, Nat.zero_le _, rfl⟩, W, e2, rfl, hw⟩
    refine ⟨Nat.zero_le _, fun D hD1 => ?_⟩
    have nDx : D ≠ x := (ne_of_none e1 hD1).symm
    have nLD : L ≠ D := ne_of_none e2 hD1
    have hD : H D = none := s1.free hD1
    have s2 := same_upd hD1 (.lst ([] : List V))
    have bad : XkT x CT k0 H1 E := q.rd s1 nx
    refine ⟨fun σ' H2 => ∃ us R j, σ' = [some (.str z), some (.ref x), some (.ref D), none, none] ∧ Kp x H1 H2 ∧ H2 D = some (.lst us) ∧ Rdr C H2 x L W.length ((">" : Str) :: R) ∧ pEnd R = .er j ∧ XkT x CT (W.length - R.length + j) H1 E, ?_, ?_⟩
    · refine ⟨fun m σ' H2 => ∃ us R j, 2 * us.length + R.length ≤ W.length ∧ σ' = [some (.str z), some (.ref x), some (.ref D), none, none] ∧ Kp x H1 H2 ∧ H2 D = some (.lst us) ∧ Rdr C H2 x L W.length R ∧ R.length < m ∧ pNet m R = .er j ∧ XkT x CT (W.length - R.length + j) H1 E,
        ⟨W.length + 1, [], W, k0, by rw [List.length_nil]; omega, rfl, Same.kp s2, upd_same, r1.same s2, Nat.lt_succ_self _, hk, by rw [Nat.sub_self, Nat.zero_add]; exact bad⟩, ?_⟩
      rintro m σ' H2 ⟨us, R, j, hu, rfl, k2, hD2, r2, hm, ej, xk⟩
      cases m with
      | zero => omega
      | succ m =>
      obtain ⟨dx2, i2, g2⟩ := r2.ins
      refine ⟨_, rfl, x, dx2, _, rfl, g2, lk_ahead _ _, x, L, R, rfl, r2.wd, scal_head _ _, _, rfl, ?_⟩
      by_cases hc : headV R = V.str ">"
      · rw [decide_eq_true hc]
        cases R with
        | nil => cases hc
        | cons y R =>
          have e : y = ">" := V.str.inj hc
          subst e
          rw [pNet_gt] at ej
          obtain ⟨i, ei, rfl⟩ := up_er ej
          have le := r2.le
          rw [List.length_cons] at le xk
          refine iteF ⟨us, R, i, rfl, k2, hD2, r2, ei, ?_⟩
          rw [show W.length - R.length + i = W.length - (R.length + 1) + (1 + i) by omega]
          exact xk
      · rw [decide_eq_false hc]
        rw [pNet_no hc] at ej
        refine iteT ⟨fun σ' H4 => ∃ us R j m', R.length < m' ∧ m' ≤ m ∧ 2 * us.length + R.length ≤ W.length ∧ σ' = [some (.str z), some (.ref x), some (.ref D), none, none] ∧ Kp x H1 H4 ∧ H4 D = some (.lst us) ∧ Rdr C H4 x L W.length R ∧ pNet m' R = .er j ∧ XkT x CT (W.length - R.length + j) H1 E, fun σ' H4 ⟨us, R, j, m', h1, h2, h3, h4, h5, h6, h7, h8, h9⟩ => ⟨m', by omega, us, R, j, h3, h4, h5, h6, h7, h1, h8, h9⟩, ?_⟩
        refine ⟨_, rfl, .inl ⟨rfl, _, SqL.of hD2⟩, _, rfl, x, L, W.length, R, rfl, r2, ⟨fun i e => ?_, fun i R3 e3 H3 k3 r3 v3 => ?_⟩⟩
        · rw [e] at ej
          cases ej
          exact xk.to k2 g2
        have hD3 := k3 _ _ hD2 nDx
        have i1 := pPart_one e3
        have gd := pPart_good R
        rw [e3] at gd
        obtain ⟨gd1, gd2⟩ := (show i ≤ R.length ∧ R3 = R.drop i from gd)
        have l3 : R3.length = R.length - i := by rw [gd2, List.length_drop]
        have le := r2.le
        rw [e3] at ej
        obtain ⟨j1, ej1, rfl⟩ := up_er (show (pSemi (pNet m) R3).up i = .er j from ej)
        refine ⟨D, _, _, rfl, rfl, hD3, small1000 (by omega), ?_⟩
        have w3 : Rdr C (upd H3 D (.lst (us ++ [v3]))) x L W.length R3 := by
          obtain ⟨dx5, W5, e1, e2, e3, e5, e6, e7, e8⟩ := r3.at_
          exact ⟨⟨dx5, W5, _, by rw [upd_ne nDx.symm]; exact e1, by rw [upd_ne nLD]; exact e2, e3, by omega, e5⟩, W5, by rw [upd_ne nLD]; exact e2, e7, e8⟩
        have kw : Kp x H1 (upd H3 D (.lst (us ++ [v3]))) := fun a o e na => by
          rw [upd_ne (ne_of_none e hD1)]
          exact k3 a o (k2 a o e na) na
        obtain ⟨dx3, i3, g3⟩ := w3.ins
        refine ⟨_, rfl, x, dx3, _, rfl, g3, lk_take _ _, x, L, W.length, [";"], R3, rfl, by decide, w3, fun m' e => ?_, fun y R4 H4 ey hy k4 r4 => ?_⟩
        · obtain ⟨rfl, hno⟩ := pTake_er e
          have e0 : pSemi (pNet m) R3 = .er 0 := by
            cases R3 with
            | nil => rfl
            | cons y R3 => exact if_neg (fun e => hno y R3 rfl (List.mem_singleton.mpr e))
          rw [e0] at ej1
          cases ej1
          rw [show W.length - R3.length + 0 = W.length - R.length + (i + 0) by omega]
          exact xk.to kw g3
        · subst ey
          have ey := List.mem_singleton.mp hy
          subst ey
          have e0 : pSemi (pNet m) ((";" : Str) :: R4) = (pNet m R4).up 1 := by
            show (if (";" : Str) = ";" then (pNet m R4).up 1 else .er 0) = _
            rw [if_pos rfl]
          rw [e0] at ej1
          obtain ⟨j2, ej2, rfl⟩ := up_er ej1
          rw [List.length_cons] at l3
          refine ⟨us ++ [v3], R4, j2, m, by omega, Nat.le_refl _, by rw [List.length_append, List.length_singleton]; omega, rfl, kw.trans k4, k4 _ _ upd_same nDx, r4, ej2, ?_⟩
          rw [show W.length - R4.length + j2 = W.length - R.length + (i + (1 + j2)) by omega]
          exact xk
    · rintro σ' H2 ⟨us, R, j, rfl, k2, hD2, r2, ej, xk⟩
      obtain ⟨dx2, i2, g2⟩ := r2.ins
      have le := r2.le
      rw [List.length_cons] at le
      refine ⟨_, rfl, x, dx2, _, rfl, g2, lk_take _ _, x, L, W.length, [">"], _, rfl, by decide, r2, fun m e => ?_, fun y R' H3 ey hy k3 r3 => ?_⟩
      · rw [pTake_one] at e
        cases e
      have e' := (List.cons.inj ey).2
      subst e'
      obtain ⟨dx3, i3, g3⟩ := r3.ins
      refine ⟨_, rfl, x, dx3, _, rfl, g3, lk_take_name _ _, x, L, W.length, R, rfl, r3, ⟨fun i e => ?_, fun i R4 e4 H4 k4 r4 v4 => ?_⟩⟩
      · have ej := (show (pName R).bind _ = RR.er j from ej)
        rw [e] at ej
        cases ej
        exact xk.to (k2.trans k3) g3
      have ej := (show (pName R).bind _ = RR.er j from ej)
      rw [e4] at ej
      obtain ⟨j1, ej1, rfl⟩ := up_er ej
      have gd := pName_good R
      rw [e4] at gd
      obtain ⟨gd1, gd2⟩ := (show i ≤ R.length ∧ R4 = R.drop i from gd)
      have l4 : R4.length = R.length - i := by rw [gd2, List.length_drop]
      obtain ⟨ns, n1, n2, n3, n4, n5⟩ := names_split 3 R4 r4.wc
      have w4 := r4.wd
      rw [n1] at w4
      obtain ⟨dx4, i4, g4⟩ := r4.ins
      refine ⟨_, rfl, x, dx4, _, rfl, g4, lk_take_names _ _, 4, 1, rfl, rfl, x, L, 3, ns, _, rfl, n2, by omega, by omega, fun h => n5 (by omega), w4, fun b H5 w5 k5 hb0 hb => ?_⟩
      have r5 := r4.kp w5 k5
      obtain ⟨dx5, W5, e1', e2', e3', e5', e6', e7', e8'⟩ := r5.at_
      refine ⟨_, rfl, x, dx5, _, rfl, e1', lk_ahead _ _, x, L, _, rfl, w5, by cases R4.drop (pNames 3 R4) <;> rfl, _, rfl, ?_⟩
      have ej1 : (if R4.drop (pNames 3 R4) = [] then RR.ok (pNames 3 R4) [] else .er (pNames 3 R4)) = .er j1 := ej1
      have ne : ¬ R4.drop (pNames 3 R4) = [] := fun e => by
        rw [if_pos e] at ej1
        cases ej1
      rw [if_neg ne] at ej1
      cases ej1
      rw [decide_eq_false (show ¬ headV (R4.drop (pNames 3 R4)) = V.non from fun e => by
        cases h : R4.drop (pNames 3 R4) with
        | nil => exact ne h
        | cons y r => rw [h] at e; cases e)]
      refine iteT ?_
      have ld : (R4.drop (pNames 3 R4)).length = R4.length - pNames 3 R4 := List.length_drop
      have pl := pNames_le 3 R4
      have fin : XkT x CT (W.length - (R4.drop (pNames 3 R4)).length) H5 E := by
        rw [show W.length - (R4.drop (pNames 3 R4)).length = W.length - R.length + (i + pNames 3 R4) by omega]
        exact xk.to (((k2.trans k3).trans k4).trans k5) e1'
      exact ⟨_, rfl, x, C, dx5, _, _, rfl, e1', T.cl, T.nA, wf_at _ _, rfl, rfl, (by decide), fun a ha => mk_raise1 XT.x.T rfl (Same.wd s1 nx (((k2.trans k3).trans k4).trans k5)) ha (fin.e (Same.refl H5))⟩
  · refine ⟨_, rfl, _, _, _, _, false, rfl, .ty _, ty, kit_ty kb, _, rfl, iteT ?_⟩
    exact ⟨rfl, rfl, (by decide), fun a ha => mk_raise1 XT.x.T rfl (Same.refl _) ha q⟩
end
end Un
namespace Un
open PySem L2 TL
section
variable {P : Program} {w : World} {K : PySem.W.Frag} {mg : Str → Option Value} {base : Heap}
open XV
/-! ### the law reads a text -/
def spIsN : Sp := fun vs H Q _ => ∃ z : Str, vs = [.str z] ∧ z.length ≤ 1000 ∧ ∀ H', Same H H' → Q (.bl (nameB z)) H'
abbrev sIn : Stmt := top 76
theorem scIn : FnScope ["_law_word", "_law_sign"] ["_law_word"] (defScope sIn) := ⟨rfl, rfl, rfl, by decide +kernel, rfl, by decide +kernel, by decide +kernel⟩
theorem ok_lawName {f : Addr} {fd : FuncData} (F : Fun K "_law_is_name" "_law_is_name" sIn f fd) (mlen : mg "len" = none) (mall : mg "all" = none) : FnOk P w K mg base CX0 1 f fd ["_law_word"] spIsN := by
  refine F.ok scIn (fun vs H Q E h => ?_) (fun cdv A outer s H vs Q E hr h => ?_)
  · obtain ⟨z, rfl, _⟩ := h
    rfl
  obtain ⟨z, rfl, hz, q⟩ := h
  refine ⟨_, pss_one (ps_ret (pe_and (pe_chain op_le op_le pe_int (pe_callB call_len (by rfl) mlen PySem.boot_len (pa_cons (pv 0) pa_nil)) pe_int) (pe_one (pe_callB (cr_all rfl) (by rfl) mall (by decide +kernel) (pa_cons
      (pe_lc (own := [("_law_sign", 1)]) (g := gName 1) rfl scIn.nd (pi_str (pv 0)) (blkOk_by (own := [("_law_sign", 1)]) (N := ["_law_word", "_law_sign"]) (sc := defScope sIn) (by decide +kernel))
        (fun _ _ _ _ _ => pg_name (i := 1) scIn.nd rfl (Or.inl rfl) (Or.inr rfl)) (fun _ _ _ _ _ => pts_nil)
        (fun _ _ _ _ _ => pe_cmpR op_in_sign (pv 1) pe_str rfl)) pa_nil))))), ?_⟩
  have hzl : z.length ≤ sizeLine := Nat.le_of_lt (small1000 hz)
  refine ⟨_, rfl, _, z.length, rfl, ⟨hzl, rfl⟩, 1, _, rfl, rfl, _, rfl, ?_⟩
  refine ite2 (fun h1 => ?_) (fun h1 => ?_)
  · refine ⟨_, 4, rfl, rfl, _, rfl, ?_⟩
    cases h2 : decide ((z.length : Int) ≤ 4) with
    | false =>
      refine iteF ?_
      have e : nameB z = false := by unfold nameB; rw [h2, Bool.and_false, Bool.false_and]
      rw [← e]
      exact q _ (Same.refl H)
    | true =>
      refine iteT ?_
      refine ⟨_, rfl, z, rfl, fun D hD => ?_⟩
      have s1 := same_upd hD (.lst [])
      refine lc_str (fun i H2 => Same H H2 ∧ H2 D = some (.lst (((z.cps.toList.take i).map fun c => decide (c ∈ letters.cps.toList)).map V.bl))) ⟨s1, upd_same⟩ (fun i c H2 hc ⟨s2, hD2⟩ => ?_) (fun H2 ⟨s2, hD2⟩ => ?_)
      · refine ⟨rfl, _, rfl, c, letters, rfl, rfl, _, hD2, ?_, fun a o e => ?_, ?_⟩
        · rw [List.length_map, List.length_map, List.length_take]
          have : z.cps.toList.length = z.length := (str_len z).symm
          exact Nat.lt_of_le_of_lt (Nat.min_le_right _ _) (by rw [this]; exact small1000 hz)
        · rw [upd_ne (ne_of_none e hD)]
          exact s2 _ _ e
        · rw [upd_same, kSq _ hc, List.map_append]
          rfl
      · rw [List.take_length] at hD2
        refine ⟨D, _, rfl, SqL.of hD2, ?_⟩
        have e : nameB z = ((z.cps.toList.map fun c => decide (c ∈ letters.cps.toList)).all id) := by
          have h1' : decide ((1 : Int) ≤ (z.length : Int)) = true := h1
          unfold nameB lowB
          rw [h2, h1', List.all_map]
          rfl
        rw [← e]
        exact q _ s2
  · have h1' : decide ((1 : Int) ≤ (z.length : Int)) = false := Bool.eq_false_iff.mpr h1
    refine ⟨_, rfl, iteF ?_⟩
    have e : nameB z = false := by unfold nameB; rw [h1', Bool.false_and, Bool.false_and]
    rw [← e]
    exact q _ (Same.refl H)
/-! words from an index on -/
theorem dr_cons {W R : List Str} {z : Str} {a : Nat} (h : W.drop a = z :: R) : a < W.length ∧ W[a]? = some z ∧ W.drop (a + 1) = R := by
  have hi : a < W.length := by
    by_cases h' : a < W.length
    · exact h'
    · rw [List.drop_eq_nil_iff.mpr (by omega)] at h
      cases h
  have e : W.drop a = W[a] :: W.drop (a + 1) := List.drop_eq_getElem_cons hi
  rw [e] at h
  exact ⟨hi, by rw [List.getElem?_eq_getElem hi, (List.cons.inj h).1], (List.cons.inj h).2⟩
theorem dr_nil {W : List Str} {a : Nat} (h : W.drop a = []) : W.length ≤ a := List.drop_eq_nil_iff.mp h
theorem pNames_non {k : Nat} {z : Str} {R : List Str} (h : nameB z = false) : pNames k (z :: R) = 0 := by
  cases k with
  | zero => rfl
  | succ k =>
    show (if nameB z = true then pNames k R + 1 else 0) = 0
    rw [h]
    rfl
theorem pNames_yes {k : Nat} {z : Str} {R : List Str} (h : nameB z = true) : pNames (k + 1) (z :: R) = pNames k R + 1 := if_pos h
theorem pNames_nil {k : Nat} : pNames k [] = 0 := by cases k <;> rfl
/-- the words of a text, at L -/
structure WL (H : Hp) (L : Addr) (W : List Str) : Prop where
  at_ : H L = some (.lst (W.map V.str))
  le : W.length ≤ 2000
  wc : ∀ z ∈ W, WC z
theorem WL.same {H H' : Hp} {L : Addr} {W : List Str} (h : WL H L W) (s : Same H H') : WL H' L W := ⟨s _ _ h.at_, h.le, h.wc⟩
theorem WL.get {H : Hp} {L : Addr} {W R : List Str} {z : Str} {a : Nat} (h : WL H L W) (e : W.drop a = z :: R) : atI (W.map V.str) (a : Int) = some (V.str z) ∧ z.length ≤ 1000 ∧ WC z := by
  obtain ⟨h1, h2, h3⟩ := dr_cons e
  have wz := h.wc z (List.mem_of_getElem? h2)
  exact ⟨atI_nat (by rw [List.getElem?_map, h2]; rfl), by have := wz.len; omega, wz⟩
def spNe : Sp := fun vs H Q _ => ∃ (L : Addr) (W : List Str) (a k : Nat), vs = [.ref L, .int (a : Nat), .int (k : Nat)] ∧ WL H L W ∧ k ≤ 10 ∧ ∀ H', Same H H' → Q (.int ((a + pNames k (W.drop a) : Nat) : Int)) H'
abbrev sNe : Stmt := top 77
theorem scNe : FnScope ["_law_words_here", "_law_at", "_law_most", "_law_k"] ["_law_words_here", "_law_at", "_law_most"] (defScope sNe) := ⟨rfl, rfl, rfl, by decide +kernel, rfl, by decide +kernel, by decide +kernel⟩
theorem ok_lawNames {f gI : Addr} {fd dI : FuncData} (F : Fun K "_law_names_end" "_law_names_end" sNe f fd) (GI : Df P w K mg base 1 gI dI "_law_is_name" ["_law_word"] spIsN) (mlen : mg "len" = none) (mrange : mg "range" = none) : FnOk P w K mg base CX0 2 f fd ["_law_words_here", "_law_at", "_law_most"] spNe := by
  refine F.ok scNe (fun vs H Q E h => ?_) (fun cdv A outer s H vs Q E hr h => ?_)
  · obtain ⟨L, W, a, k, rfl, _⟩ := h
    rfl
  obtain ⟨L, W, a, k, rfl, wl, hk, q⟩ := h
  refine ⟨_, (pss_cons (ps_for PassesOwn.never rfl (pi_range1 (by rfl) mrange (pa_cons (pv 2) pa_nil)) (pg_name (i := 3) scNe.nd rfl (by first | exact Or.inl rfl | exact Or.inr rfl))
 (pss_one (ps_if (PW.pt (pw_and (pt_cmpR op_lt (pv 1) (pe_callB call_len_seq (by rfl) mlen PySem.boot_len (pa_cons (pv 0) pa_nil)) (nomark _)) (pw_and1 (pt_val (pe_call GI.ok (hr.mono (by decide)) (by rfl) GI.m GI.kp GI.b .nil pass0 (pa_cons (pe_ix ix_list (pv 0) (pv 1) (fun _ _ => rfl)) pa_nil))))))
 (pss_one (ps_set (i := 1) scNe.nd rfl (by first | exact Or.inl rfl | exact Or.inr rfl) (pe_op op_add (pv 1) pe_int)))
 pss_nil)))
 (pss_one (ps_ret (pv 1)))), ?_⟩
  refine ⟨_, rfl, k, rfl, by omega, by omega, ?_⟩
  rw [show ((k : Nat) : Int).toNat = k from rfl]
  refine for_range (lo := 0) (n := k) (fun i σ' H2 => ∃ b v, σ' = [some (.ref L), some (.int (b : Nat)), some (.int (k : Nat)), v] ∧ Same H H2 ∧ a ≤ b ∧ pNames k (W.drop a) = (b - a) + pNames (k - i) (W.drop b)) ⟨a, none, rfl, Same.refl H, Nat.le_refl _, by rw [Nat.sub_self, Nat.sub_zero, Nat.zero_add]⟩ ?_ ?_
  · rintro i σ' H2 hi ⟨b, v, rfl, s2, hb, e⟩
    have w2 := wl.same s2
    obtain ⟨m, em⟩ : ∃ m, k - i = m + 1 := ⟨k - i - 1, by omega⟩
    have em' : k - (i + 1) = m := by omega
    rw [em] at e
    refine ⟨_, rfl, _, rfl, L, _, rfl, .inl (SqL.of w2.at_), _, _, rfl, rfl, _, rfl, ?_⟩
    rw [List.length_map]
    cases hR : W.drop b with
    | nil =>
      have hl := dr_nil hR
      rw [decide_eq_false (by omega)]
      refine iteF ⟨b, _, rfl, s2, hb, ?_⟩
      rw [em', e, hR, pNames_nil, pNames_nil]
    | cons z R =>
      obtain ⟨h1, h2, h3⟩ := dr_cons hR
      obtain ⟨g1, g2, g3⟩ := w2.get hR
      rw [decide_eq_true (by omega)]
      refine iteT ⟨_, rfl, _, rfl, L, _, _, _, rfl, rfl, SqL.of w2.at_, g1, z, rfl, g2, fun H3 s3 => ⟨_, rfl, ?_⟩⟩
      rw [hR] at e
      cases hz : nameB z with
      | false =>
        refine iteF ⟨b, _, rfl, s2.trans s3, hb, ?_⟩
        rw [em', e, hR, pNames_non hz, pNames_non hz]
      | true =>
        refine iteT ⟨_, rfl, b, 1, rfl, rfl, b + 1, _, rfl, s2.trans s3, by omega, ?_⟩
        rw [em', e, h3, pNames_yes hz]
        omega
  · rintro σ' H2 ⟨b, v, rfl, s2, hb, e⟩
    refine ⟨_, rfl, ?_⟩
    have : ((b : Nat) : Int) = ((a + pNames k (W.drop a) : Nat) : Int) := by
      have e0 : pNames (k - k) (W.drop b) = 0 := by rw [Nat.sub_self]; cases W.drop b <;> rfl
      rw [e0] at e
      rw [e]
      omega
    rw [this]
    exact q H2 s2
/-! terms -/
def facS : List Str := (List.range 199).map fun k => dec (((k : Nat) : Int) - 99)
theorem fac_in {z : Str} : decide (z ∈ facS) = inB (-99) 99 z := by
  by_cases h : inB (-99) 99 z = true
  · rw [h]
    obtain ⟨n, h0, h1, e⟩ := (inB_iff (by decide) (by decide)).mp h
    refine decide_eq_true ?_
    unfold facS
    exact List.mem_map.mpr ⟨(n + 99).toNat, List.mem_range.mpr (by omega), by rw [e]; congr 1; omega⟩
  · rw [Bool.not_eq_true] at h
    rw [h]
    refine decide_eq_false fun hm => ?_
    unfold facS at hm
    obtain ⟨k, hk, e⟩ := List.mem_map.mp hm
    have hk := List.mem_range.mp hk
    have : inB (-99) 99 z = true := (inB_iff (by decide) (by decide)).mpr ⟨((k : Nat) : Int) - 99, by omega, by omega, e.symm⟩
    rw [h] at this
    cases this
theorem in14 {z : Str} : decide (z ∈ (["1", "2", "3", "4"] : List Str)) = inB 1 4 z := by
  have d : (["1", "2", "3", "4"] : List Str) = [dec 1, dec 2, dec 3, dec 4] := by decide +kernel
  rw [d]
  by_cases h : inB 1 4 z = true
  · rw [h]
    obtain ⟨n, h0, h1, e⟩ := (inB_iff (by decide) (by decide)).mp h
    refine decide_eq_true ?_
    rw [e]
    rcases (by omega : n = 1 ∨ n = 2 ∨ n = 3 ∨ n = 4) with rfl | rfl | rfl | rfl <;> simp
  · rw [Bool.not_eq_true] at h
    rw [h]
    refine decide_eq_false fun hm => ?_
    have : inB 1 4 z = true := by
      refine (inB_iff (by decide) (by decide)).mpr ?_
      rcases List.mem_cons.mp hm with e | hm
      · exact ⟨1, by decide, by decide, e⟩
      rcases List.mem_cons.mp hm with e | hm
      · exact ⟨2, by decide, by decide, e⟩
      rcases List.mem_cons.mp hm with e | hm
      · exact ⟨3, by decide, by decide, e⟩
      rcases List.mem_cons.mp hm with e | hm
      · exact ⟨4, by decide, by decide, e⟩
      cases hm
    rw [h] at this
    cases this
def ResA (W : List Str) (a : Nat) (x : RR) (g : Bool) (e : Nat) : Prop := match x with
  | .ok n _ => g = true ∧ e = a + n
  | .er n => e = a + n ∧ (g = true → ¬ headV (W.drop e) = V.str ";")
theorem ResA.sh {W : List Str} {a m : Nat} {x : RR} {g : Bool} {e : Nat} (h : ResA W (a + m) x g e) : ResA W a (x.up m) g e := by
  cases x with
  | ok n r => exact ⟨h.1, by have := h.2; omega⟩
  | er n => exact ⟨by have := h.1; omega, h.2⟩
theorem ResA.bad {W : List Str} {a m : Nat} : ResA W a (.er m) false (a + m) := ⟨rfl, fun h => by cases h⟩
theorem ResA.good {W R : List Str} {a m : Nat} : ResA W a (.ok m R) true (a + m) := ⟨rfl, rfl⟩
theorem tm_nf {z : Str} {R : List Str} {f : List Str → RR} (h : inB (-99) 99 z = false) : (pTerm (z :: R)).bind f = .er 0 := by
  show (((if inB (-99) 99 z = true then RR.ok 1 R else .er 0).bind fun R1 => (pName R1).bind pLate)).bind f = .er 0
  rw [h]
  rfl
theorem tm_n1 {z : Str} {R : List Str} {f : List Str → RR} (h : inB (-99) 99 z = true) (hr : ∀ y R', R = y :: R' → nameB y = false) : (pTerm (z :: R)).bind f = .er 1 := by
  show (((if inB (-99) 99 z = true then RR.ok 1 R else .er 0).bind fun R1 => (pName R1).bind pLate)).bind f = .er 1
  rw [h, if_pos rfl]
  cases R with
  | nil => rfl
  | cons y R =>
    show (((if nameB y = true then RR.ok 1 R else .er 0).bind pLate).up 1).bind f = .er 1
    rw [hr y R rfl]
    rfl
theorem up_bind_up {x : RR} {f : List Str → RR} {m : Nat} : (x.up m).bind f = (x.bind f).up m := (RR.up_bind m x f).symm
theorem tm_ok {z y : Str} {R : List Str} {f : List Str → RR} (h : inB (-99) 99 z = true) (hr : nameB y = true) : (pTerm (z :: y :: R)).bind f = ((pLate R).bind f).up 2 := by
  show (((if inB (-99) 99 z = true then RR.ok 1 (y :: R) else .er 0).bind fun R1 => (pName R1).bind pLate)).bind f = _
  rw [h, if_pos rfl]
  show (((if nameB y = true then RR.ok 1 R else .er 0).bind pLate).up 1).bind f = _
  rw [hr, if_pos rfl]
  show (((pLate R).up 1).up 1).bind f = _
  rw [RR.up_up, up_bind_up]
theorem pTerms_ne {z : Str} {R : List Str} (h : ¬ z = ";") : pTerms (z :: R) = (pTerm (z :: R)).bind (pMore 5) := pTerms_no (fun e => h (V.str.inj (show V.str z = V.str ";" from e)))
def spEnd (f : List Str → RR) : Sp := fun vs H Q _ => ∃ (L : Addr) (W : List Str) (a : Nat), vs = [.ref L, .int (a : Nat)] ∧ WL H L W ∧ ∀ (t : Addr) (g : Bool) (e : Nat) (H' : Hp), Same H H' → H' t = some (.tup [.bl g, .int (e : Nat)]) → ResA W a (f (W.drop a)) g e → Q (.ref t) H'
abbrev sMe : Stmt := top 78
theorem scMe : FnScope ["_law_words_here", "_law_at", "_law_factors", "_law_k", "_law_number"] ["_law_words_here", "_law_at"] (defScope sMe) := ⟨rfl, rfl, rfl, by decide +kernel, rfl, by decide +kernel, by decide +kernel⟩
theorem ok_lawMix {f gI : Addr} {fd dI : FuncData} (F : Fun K "_law_mix_end" "_law_mix_end" sMe f fd) (GI : Df P w K mg base 1 gI dI "_law_is_name" ["_law_word"] spIsN) (mlen : mg "len" = none) (mrange : mg "range" = none) (mstr : mg "str" = none) : FnOk P w K mg base CX0 2 f fd ["_law_words_here", "_law_at"] (spEnd pTerms) := by
  refine F.ok scMe (fun vs H Q E h => ?_) (fun cdv A outer s H vs Q E hr h => ?_)
  · obtain ⟨L, W, a, rfl, _⟩ := h
    rfl
  obtain ⟨L, W, a, rfl, wl, q⟩ := h
  refine ⟨_, (pss_cons (ps_setLc (i := 2) (own := [("_law_number", 4)]) (g := (gName 4)) rfl scMe.nd rfl rfl (sw_true rfl rfl rfl (by decide +kernel)) (pi_range2 (by rfl) mrange (pa_cons (pe_un un_neg pe_int) (pa_cons pe_int pa_nil))) (blkOk_by (own := [("_law_number", 4)]) (N := ["_law_words_here", "_law_at", "_law_factors", "_law_k", "_law_number"]) (sc := defScope sMe) (by decide +kernel)) (fun _ _ _ _ _ => (pg_name (i := 4) scMe.nd rfl (Or.inl rfl) (Or.inr rfl))) (fun _ _ _ _ _ => pts_nil) (fun _ _ _ _ _ => (pe_callTy call_str_int (by rfl) mstr (by decide +kernel) (pa_cons (pv 4) pa_nil))))
 (pss_cons (ps_if (PW.pt (pw_or (pt_cmpR op_ge (pv 1) (pe_callB call_len_seq (by rfl) mlen PySem.boot_len (pa_cons (pv 0) pa_nil)) (nomark _)) (pw_or1 (pt_cmpR op_notIn_seq (pe_ix ix_list (pv 0) (pv 1) (fun _ _ => rfl)) (pv 2) (by rfl)))))
 (pss_one (ps_ret (pe_tup (pa_cons pe_bl (pa_cons (pv 1) pa_nil)))))
 pss_nil)
 (pss_cons (ps_for PassesOwn.never rfl (pi_range1 (by rfl) mrange (pa_cons pe_int pa_nil)) (pg_name (i := 3) scMe.nd rfl (by first | exact Or.inl rfl | exact Or.inr rfl))
 (pss_cons (ps_if (PW.pt (pw_or (pt_cmpR op_ge (pv 1) (pe_callB call_len_seq (by rfl) mlen PySem.boot_len (pa_cons (pv 0) pa_nil)) (nomark _)) (pw_or1 (pt_cmpR op_notIn_seq (pe_ix ix_list (pv 0) (pv 1) (fun _ _ => rfl)) (pv 2) (by rfl)))))
 (pss_one (ps_ret (pe_tup (pa_cons pe_bl (pa_cons (pv 1) pa_nil)))))
 pss_nil)
 (pss_cons (ps_if (PW.pt (pw_or (pt_cmpR op_ge (pe_op op_add (pv 1) pe_int) (pe_callB call_len_seq (by rfl) mlen PySem.boot_len (pa_cons (pv 0) pa_nil)) (nomark _)) (pw_or1 (pt_not (pt_val (pe_call GI.ok (hr.mono (by decide)) (by rfl) GI.m GI.kp GI.b .nil pass0 (pa_cons (pe_ix ix_list (pv 0) (pe_op op_add (pv 1) pe_int) (fun _ _ => rfl)) pa_nil)))))))
 (pss_one (ps_ret (pe_tup (pa_cons pe_bl (pa_cons (pe_op op_add (pv 1) pe_int) pa_nil)))))
 pss_nil)
 (pss_cons (ps_set (i := 1) scMe.nd rfl (by first | exact Or.inl rfl | exact Or.inr rfl) (pe_op op_add (pv 1) pe_int))
 (C8.pss_cut (ps_if (PW.pt (pw_and (pt_cmpR op_lt (pv 1) (pe_callB call_len_seq (by rfl) mlen PySem.boot_len (pa_cons (pv 0) pa_nil)) (nomark _)) (pw_and1 (pt_cmpR op_eq (pe_ix ix_list (pv 0) (pv 1) (fun _ _ => rfl)) pe_str (nomark _)))))
 (pss_cons (ps_if (PW.pt (pw_or (pt_cmpR op_ge (pe_op op_add (pv 1) pe_int) (pe_callB call_len_seq (by rfl) mlen PySem.boot_len (pa_cons (pv 0) pa_nil)) (nomark _)) (pw_or1 (pt_cmpR op_notIn_seq (pe_ix ix_list (pv 0) (pe_op op_add (pv 1) pe_int) (fun _ _ => rfl)) (pe_lst (pa_cons pe_str (pa_cons pe_str (pa_cons pe_str (pa_cons pe_str pa_nil))))) (by rfl)))))
 (pss_one (ps_ret (pe_tup (pa_cons pe_bl (pa_cons (pe_op op_add (pv 1) pe_int) pa_nil)))))
 pss_nil)
 (pss_one (ps_set (i := 1) scMe.nd rfl (by first | exact Or.inl rfl | exact Or.inr rfl) (pe_op op_add (pv 1) pe_int))))
 pss_nil)
 (pss_cons (ps_if (PW.pt (pw_or (pt_cmpR op_ge (pv 1) (pe_callB call_len_seq (by rfl) mlen PySem.boot_len (pa_cons (pv 0) pa_nil)) (nomark _)) (pw_or (pt_cmpR op_ne (pe_ix ix_list (pv 0) (pv 1) (fun _ _ => rfl)) pe_str (nomark _)) (pw_or1 (pt_cmpR op_eq (pv 3) pe_int (nomark _))))))
 (pss_one (ps_ret (pe_tup (pa_cons pe_bl (pa_cons (pv 1) pa_nil)))))
 pss_nil)
 (pss_one (ps_set (i := 1) scMe.nd rfl (by first | exact Or.inl rfl | exact Or.inr rfl) (pe_op op_add (pv 1) pe_int)))))))))
 (pss_one (ps_ret (pe_tup (pa_cons pe_bl (pa_cons (pv 1) pa_nil)))))))), ?_⟩
  refine ⟨99, rfl, -99, 100, rfl, ⟨by decide, by decide, by decide, by decide⟩, fun D hD => ?_⟩
  rw [show ((100 : Int) - -99).toNat = 199 from rfl]
  have s0 := same_upd hD (.lst ([] : List V))
  refine lc_range (lo := -99) (n := 199) (fun i H2 => Same H H2 ∧ H2 D = some (.lst (((List.range i).map fun k => dec (((k : Nat) : Int) - 99)).map V.str))) ⟨s0, upd_same⟩ (fun i H2 hi ⟨s2, hD2⟩ => ?_) (fun H2 ⟨s2, hD2⟩ => ?_)
  · refine ⟨rfl, _, rfl, -99 + (i : Int), rfl, dec_log (by omega) (by omega), _, hD2, by rw [List.length_map, List.length_map, List.length_range]; exact small1000 (by omega), fun a o e => ?_, ?_⟩
    · rw [upd_ne (ne_of_none e hD)]
      exact s2 _ _ e
    · rw [upd_same, List.range_succ, List.map_append, List.map_append]
      show some (HO.lst (_ ++ [V.str (dec (-99 + (i : Int)))])) = some (HO.lst (_ ++ [V.str (dec ((i : Int) - 99))]))
      rw [show -99 + (i : Int) = (i : Int) - 99 by omega]
  have hF : H2 D = some (.lst (facS.map V.str)) := hD2
  have w2 := wl.same s2
  have ret : ∀ (g : Bool) (e : Nat) (H3 : Hp), Same H H3 → ResA W a (pTerms (W.drop a)) g e → ∀ x, H3 x = none → Q (.ref x) (upd H3 x (.tup [.bl g, .int (e : Nat)])) := fun g e H3 s3 r x hx => q x g e _ (s3.trans (same_upd hx _)) upd_same r
  have h2s : (2 : Nat) ≤ sizeLine := by decide
  refine ⟨_, rfl, _, rfl, L, _, rfl, .inl (SqL.of w2.at_), _, _, rfl, rfl, _, rfl, ?_⟩
  rw [List.length_map]
  cases hR : W.drop a with
  | nil =>
    have hl := dr_nil hR
    rw [decide_eq_true (by omega)]
    refine iteT (iteT ⟨_, rfl, h2s, fun x hx => ret true a H2 s2 ?_ x hx⟩)
    rw [hR]
    exact ⟨rfl, fun _ => by rw [hR]; exact fun z => nomatch z⟩
  | cons z R =>
    obtain ⟨h1, h2, h3⟩ := dr_cons hR
    obtain ⟨g1, g2, g3⟩ := w2.get hR
    rw [decide_eq_false (by omega)]
    refine iteF ⟨_, rfl, _, rfl, L, _, _, _, rfl, rfl, SqL.of w2.at_, g1, _, rfl, D, _, rfl, .inl (SqL.of hF), rfl, flat_strs _, ?_⟩
    rw [in_strs2, fac_in]
    cases hz : inB (-99) 99 z with
    | false =>
      refine ⟨_, rfl, iteT ⟨_, rfl, h2s, fun x hx => ret true a H2 s2 ?_ x hx⟩⟩
      rw [hR]
      by_cases e : z = ";"
      · subst e
        rw [pTerms_semi]
        exact ResA.good
      · rw [pTerms_ne e, tm_nf hz]
        exact ⟨rfl, fun _ => by rw [hR]; exact fun h => e (V.str.inj h)⟩
    | true =>
      refine ⟨_, rfl, iteF ?_⟩
      have ez : ¬ z = ";" := fun e => by
        rw [e, show inB (-99) 99 ";" = false by decide +kernel] at hz
        cases hz
      refine ⟨6, rfl, by decide, by decide, ?_⟩
      refine for_range (lo := 0) (n := 6) (fun i σ' H3 => ∃ b v, i ≤ 5 ∧ σ' = [some (.ref L), some (.int (b : Nat)), some (.ref D), v, none] ∧ Same H H3 ∧ H3 D = some (.lst (facS.map V.str)) ∧ ∀ g e, ResA W b ((pTerm (W.drop b)).bind (pMore (5 - i))) g e → ResA W a (pTerms (W.drop a)) g e) ⟨a, none, by decide, rfl, s2, hF, fun g e h => by rw [hR, pTerms_ne ez, ← hR]; exact h⟩ ?_ ?_
      · rintro i σ' H3 hi ⟨b, v, hi5, rfl, s3, hF3, fin⟩
        have w3 := wl.same s3
        refine ⟨_, rfl, _, rfl, L, _, rfl, .inl (SqL.of w3.at_), _, _, rfl, rfl, _, rfl, ?_⟩
        rw [List.length_map]
        cases hB : W.drop b with
        | nil =>
          have hl := dr_nil hB
          rw [decide_eq_true (by omega)]
          refine iteT (iteT ⟨_, rfl, h2s, fun x hx => ret false b H3 s3 (fin _ _ ?_) x hx⟩)
          rw [hB]
          exact ResA.bad (m := 0)
        | cons y B1 =>
          obtain ⟨j1, j2, j3⟩ := dr_cons hB
          obtain ⟨k1, k2, k3⟩ := w3.get hB
          rw [decide_eq_false (by omega)]
          refine iteF ⟨_, rfl, _, rfl, L, _, _, _, rfl, rfl, SqL.of w3.at_, k1, _, rfl, D, _, rfl, .inl (SqL.of hF3), rfl, flat_strs _, ?_⟩
          rw [in_strs2, fac_in]
          rw [hB] at fin
          cases hy : inB (-99) 99 y with
          | false =>
            refine ⟨_, rfl, iteT ⟨_, rfl, h2s, fun x hx => ret false b H3 s3 (fin _ _ ?_) x hx⟩⟩
            rw [tm_nf hy]
            exact ResA.bad (m := 0)
          | true =>
            refine ⟨_, rfl, iteF ?_⟩
            refine ⟨_, rfl, b, 1, rfl, rfl, _, rfl, L, _, rfl, .inl (SqL.of w3.at_), _, _, rfl, rfl, _, rfl, ?_⟩
            rw [List.length_map]
            cases B1 with
            | nil =>
              have hl := dr_nil j3
              rw [decide_eq_true (by omega)]
              refine iteT (iteT ⟨_, rfl, b, 1, rfl, rfl, h2s, fun x hx => ret false (b + 1) H3 s3 (fin _ _ ?_) x hx⟩)
              rw [tm_n1 (R := []) hy (fun _ _ e => nomatch e)]
              exact ResA.bad
            | cons u B2 =>
              obtain ⟨l1, l2, l3⟩ := dr_cons j3
              obtain ⟨m1, m2, m3⟩ := w3.get j3
              rw [decide_eq_false (by omega)]
              refine iteF ⟨_, rfl, _, rfl, b, 1, rfl, rfl, L, _, _, _, rfl, rfl, SqL.of w3.at_, m1, u, rfl, m2, fun H4 s4 => ⟨_, rfl, ?_⟩⟩
              cases hu : nameB u with
              | false =>
                refine iteT ⟨_, rfl, b, 1, rfl, rfl, h2s, fun x hx => ret false (b + 1) H4 (s3.trans s4) (fin _ _ ?_) x hx⟩
                rw [tm_n1 hy (fun y' R' e => by rw [← (List.cons.inj e).1]; exact hu)]
                exact ResA.bad
              | true =>
                rw [tm_ok hy hu] at fin
                have fin := fun g e h => fin g e (ResA.sh h)
                have w4 := w3.same s4
                refine iteF ⟨_, rfl, b, 2, rfl, rfl, ?_⟩
                refine ⟨fun σ' H5 => ∃ b', σ' = [some (.ref L), some (.int ((b' : Nat) : Int)), some (.ref D), some (.int (0 + (i : Int))), none] ∧ Same H H5 ∧ H5 D = some (.lst (facS.map V.str)) ∧ ∀ g e, ResA W b' (pMore (5 - i) (W.drop b')) g e → ResA W a (pTerms (W.drop a)) g e, ?_, ?_⟩
                · refine ⟨_, rfl, _, rfl, L, _, rfl, .inl (SqL.of w4.at_), _, _, rfl, rfl, _, rfl, ?_⟩
                  rw [List.length_map]
                  cases B2 with
                  | nil =>
                    have hl := dr_nil l3
                    rw [decide_eq_false (by omega)]
                    refine iteF ⟨b + 2, rfl, s3.trans s4, s4 _ _ hF3, fun g e h => fin g e ?_⟩
                    rw [l3] at h
                    exact ResA.sh (m := 0) h
                  | cons y2 B3 =>
                    obtain ⟨n1, n2, n3⟩ := dr_cons l3
                    obtain ⟨p1, p2, p3⟩ := w4.get l3
                    rw [decide_eq_true (by omega)]
                    refine iteT ⟨_, rfl, _, rfl, L, _, _, _, rfl, rfl, SqL.of w4.at_, p1, rfl, _, rfl, ?_⟩
                    by_cases hl : y2 = "late"
                    · subst hl
                      rw [decide_eq_true rfl]
                      rw [pLate_late] at fin
                      refine iteT ⟨_, rfl, ((b + 2 : Nat) : Int), 1, rfl, rfl, _, rfl, L, _, rfl, .inl (SqL.of w4.at_), _, _, rfl, rfl, _, rfl, ?_⟩
                      rw [List.length_map]
                      cases B3 with
                      | nil =>
                        have hl := dr_nil n3
                        rw [decide_eq_true (by omega)]
                        refine iteT (iteT ⟨_, rfl, ((b + 2 : Nat) : Int), 1, rfl, rfl, h2s, fun x hx => ret false (b + 3) H4 (s3.trans s4) (fin _ _ ?_) x hx⟩)
                        exact ResA.bad (a := b + 2) (m := 1)
                      | cons y3 B4 =>
                        obtain ⟨r1, r2, r3⟩ := dr_cons n3
                        obtain ⟨t1, t2, t3⟩ := w4.get n3
                        rw [decide_eq_false (by omega)]
                        refine iteF ⟨_, rfl, _, rfl, ((b + 2 : Nat) : Int), 1, rfl, rfl, L, _, _, _, rfl, rfl, SqL.of w4.at_, t1, (by show 4 ≤ sizeLine; decide), fun c hc => ?_⟩
                        have s5 := same_upd hc (.lst [V.str "1", V.str "2", V.str "3", V.str "4"])
                        have s35 := (s3.trans s4).trans s5
                        have hc' : upd H4 c (.lst [V.str "1", V.str "2", V.str "3", V.str "4"]) c = some (.lst ((["1", "2", "3", "4"] : List Str).map V.str)) := upd_same
                        have hF5 := s5 _ _ (s4 _ _ hF3)
                        generalize upd H4 c (.lst [V.str "1", V.str "2", V.str "3", V.str "4"]) = H5 at s5 s35 hc' hF5 ⊢
                        refine ⟨c, _, rfl, .inl (SqL.of hc'), rfl, flat_strs _, ?_⟩
                        rw [in_strs2, in14]
                        have pn : pNum 1 4 (y3 :: B4) = if inB 1 4 y3 = true then RR.ok 1 B4 else .er 0 := rfl
                        rw [pn] at fin
                        cases hy3 : inB 1 4 y3 with
                        | false =>
                          rw [hy3] at fin
                          refine ⟨_, rfl, iteT ⟨_, rfl, ((b + 2 : Nat) : Int), 1, rfl, rfl, h2s, fun x hx => ret false (b + 3) H5 s35 (fin _ _ ?_) x hx⟩⟩
                          exact ResA.bad (a := b + 2) (m := 1)
                        | true =>
                          rw [hy3] at fin
                          refine ⟨_, rfl, iteF ⟨_, rfl, ((b + 2 : Nat) : Int), 2, rfl, rfl, b + 4, rfl, s35, hF5, fun g e h => fin g e ?_⟩⟩
                          rw [show b + 4 = b + 3 + 1 from rfl, r3] at h
                          exact ResA.sh (a := b + 2) (m := 2) h
                    · rw [decide_eq_false (fun e => hl (V.str.inj e))]
                      rw [pLate_no _ hl] at fin
                      refine iteF ⟨b + 2, rfl, s3.trans s4, s4 _ _ hF3, fun g e h => fin g e ?_⟩
                      rw [l3] at h
                      exact ResA.sh (m := 0) h
                · rintro σ' H5 ⟨b', rfl, s5, hF5, fin'⟩
                  have w5 := wl.same s5
                  refine ⟨_, rfl, _, rfl, L, _, rfl, .inl (SqL.of w5.at_), _, _, rfl, rfl, _, rfl, ?_⟩
                  rw [List.length_map]
                  cases hC : W.drop b' with
                  | nil =>
                    have hl := dr_nil hC
                    rw [decide_eq_true (by omega)]
                    refine iteT (iteT ⟨_, rfl, h2s, fun x hx => ret true b' H5 s5 (fin' _ _ ?_) x hx⟩)
                    rw [hC, pMore_nil]
                    exact ResA.good (m := 0)
                  | cons y4 C1 =>
                    obtain ⟨r1, r2, r3⟩ := dr_cons hC
                    obtain ⟨t1, t2, t3⟩ := w5.get hC
                    rw [decide_eq_false (by omega)]
                    refine iteF ⟨_, rfl, _, rfl, L, _, _, _, rfl, rfl, SqL.of w5.at_, t1, rfl, _, rfl, ?_⟩
                    by_cases hc : y4 = ","
                    · subst hc
                      rw [decide_eq_true rfl]
                      refine iteF ⟨_, rfl, rfl, _, rfl, ?_⟩
                      by_cases h5 : i = 5
                      · subst h5
                        rw [decide_eq_true (show V.int (0 + ((5 : Nat) : Int)) = V.int 5 from rfl)]
                        refine iteT ⟨_, rfl, h2s, fun x hx => ret true b' H5 s5 (fin' _ _ ?_) x hx⟩
                        exact ResA.good (m := 0)
                      · rw [decide_eq_false (show ¬ V.int (0 + ((i : Nat) : Int)) = V.int 5 from fun e => by
                          have := V.int.inj e
                          omega)]
                        refine iteF ⟨_, rfl, b', 1, rfl, rfl, b' + 1, _, by omega, rfl, s5, hF5, fun g e h => fin' g e ?_⟩
                        rw [hC, show 5 - i = (5 - (i + 1)) + 1 by omega, pMore_comma]
                        rw [r3] at h
                        exact ResA.sh h
                    · rw [decide_eq_false (fun e => hc (V.str.inj e))]
                      refine iteT (iteT ⟨_, rfl, h2s, fun x hx => ret true b' H5 s5 (fin' _ _ ?_) x hx⟩)
                      rw [hC, pMore_no hc]
                      exact ResA.good (m := 0)
      · rintro σ' H3 ⟨b, v, h5, _⟩
        exact absurd h5 (by decide)
/-! a part -/
theorem pPart_cons {z : Str} {R : List Str} : pPart (z :: R) = if nameB z = true then (pKind R).up 1 else .er 0 := by
  show ((if nameB z = true then RR.ok 1 R else .er 0).bind pKind) = _
  cases nameB z with
  | true => rfl
  | false => rfl
theorem pKind_no {R : List Str} (h : ∀ k R', R = k :: R' → ¬ k ∈ kinds7) : pKind R = .er 0 := by
  cases R with
  | nil => rfl
  | cons k R => exact if_neg (h k R rfl)
theorem pName_cons {z : Str} {R : List Str} : pName (z :: R) = if nameB z = true then RR.ok 1 R else .er 0 := rfl
theorem ResA.nm {W R : List Str} {f : List Str → RR} {a lo m : Nat} (h : ∀ z R', R = z :: R' → nameB z = true → ResA W (a + 1) (f R') (decide (lo ≤ pNames m R')) (a + 1 + pNames m R')) : ResA W a ((pName R).bind f) (decide (lo + 1 ≤ pNames (m + 1) R)) (a + pNames (m + 1) R) := by
  cases R with
  | nil =>
    rw [pNames_nil, decide_eq_false (by omega)]
    exact ResA.bad (m := 0)
  | cons z R =>
    cases hz : nameB z with
    | false =>
      rw [pNames_non hz, pName_cons, hz, decide_eq_false (by omega)]
      exact ResA.bad (m := 0)
    | true =>
      have := (h z R rfl hz).sh
      rw [pNames_yes hz, pName_cons, hz, if_pos rfl]
      show ResA W a ((f R).up 1) _ _
      rw [show decide (lo + 1 ≤ pNames m R + 1) = decide (lo ≤ pNames m R) from decide_eq_decide.mpr (by omega), show a + (pNames m R + 1) = a + 1 + pNames m R by omega]
      exact this
theorem ResA.nm0 {W R R' : List Str} {a : Nat} : ResA W a (.ok 0 R') (decide (0 ≤ pNames 0 R)) (a + pNames 0 R) := by
  rw [decide_eq_true (Nat.zero_le _), show pNames 0 R = 0 by cases R <;> rfl]
  exact ResA.good (m := 0)
def lohi (k : Str) : Nat × Nat := if k = "use" then (1, 5) else if k = "pair" then (3, 3) else (2, 2)
theorem tail_names {W : List Str} {k : Str} {R : List Str} {a : Nat} (h1 : ¬ k = "source") (h2 : ¬ k = "mix") : ResA W a (pTail k R) (decide ((lohi k).1 ≤ pNames (lohi k).2 R)) (a + pNames (lohi k).2 R) := by
  unfold pTail lohi
  rw [if_neg h1, if_neg h2]
  by_cases h3 : k = "use"
  · subst h3
    rw [if_pos rfl]
    refine ResA.nm (lo := 0) (m := 4) fun z R' _ _ => ?_
    rw [if_pos rfl, decide_eq_true (Nat.zero_le _)]
    exact ResA.good
  rw [if_neg h3]
  by_cases h4 : k = "pair"
  · subst h4
    rw [if_pos rfl]
    refine ResA.nm (lo := 2) (m := 2) fun z R' _ _ => ?_
    rw [if_neg h3]
    refine ResA.nm (lo := 1) (m := 1) fun z R' _ _ => ?_
    rw [if_pos rfl]
    have := ResA.nm (W := W) (R := R') (f := fun R => .ok 0 R) (a := a + 1 + 1) (lo := 0) (m := 0) fun z R' _ _ => ResA.nm0
    cases R' with
    | nil => exact this
    | cons z R' =>
      rw [pName_cons] at this
      rw [pName_cons]
      cases hz : nameB z with
      | true => rw [hz] at this; exact this
      | false => rw [hz] at this; exact this
  · rw [if_neg h4]
    refine ResA.nm (lo := 1) (m := 1) fun z R' _ _ => ?_
    rw [if_neg h3]
    refine ResA.nm (lo := 0) (m := 0) fun z R' _ _ => ?_
    rw [if_neg h4]
    exact ResA.nm0
abbrev sPe : Stmt := top 79
theorem scPe : FnScope ["_law_words_here", "_law_at", "_law_word", "_law_least", "_law_most", "_law_end"] ["_law_words_here", "_law_at"] (defScope sPe) := ⟨rfl, rfl, rfl, by decide +kernel, rfl, by decide +kernel, by decide +kernel⟩
theorem ok_lawPart {f gI gE gM : Addr} {fd dI dE dM : FuncData} (F : Fun K "_law_part_end" "_law_part_end" sPe f fd) (GI : Df P w K mg base 1 gI dI "_law_is_name" ["_law_word"] spIsN) (GNe : Df P w K mg base 2 gE dE "_law_names_end" ["_law_words_here", "_law_at", "_law_most"] spNe) (GMe : Df P w K mg base 2 gM dM "_law_mix_end" ["_law_words_here", "_law_at"] (spEnd pTerms)) (mlen : mg "len" = none) : FnOk P w K mg base CX0 3 f fd ["_law_words_here", "_law_at"] (spEnd pPart) := by
  refine F.ok scPe (fun vs H Q E h => ?_) (fun cdv A outer s H vs Q E hr h => ?_)
  · obtain ⟨L, W, a, rfl, _⟩ := h
    rfl
  obtain ⟨L, W, a, rfl, wl, q⟩ := h
  refine ⟨_, (pss_cons (ps_if (PW.pt (pw_or (pt_cmpR op_ge (pv 1) (pe_callB call_len_seq (by rfl) mlen PySem.boot_len (pa_cons (pv 0) pa_nil)) (nomark _)) (pw_or1 (pt_not (pt_val (pe_call GI.ok (hr.mono (by decide)) (by rfl) GI.m GI.kp GI.b .nil pass0 (pa_cons (pe_ix ix_list (pv 0) (pv 1) (fun _ _ => rfl)) pa_nil)))))))
 (pss_one (ps_ret (pe_tup (pa_cons pe_bl (pa_cons (pv 1) pa_nil)))))
 pss_nil)
 (C8.pss_cut (ps_set (i := 2) scPe.nd rfl (by first | exact Or.inl rfl | exact Or.inr rfl) (pe_ifExp (pt_cmpR op_lt (pe_op op_add (pv 1) pe_int) (pe_callB call_len_seq (by rfl) mlen PySem.boot_len (pa_cons (pv 0) pa_nil)) (nomark _)) (pe_ix ix_list (pv 0) (pe_op op_add (pv 1) pe_int) (fun _ _ => rfl)) pe_str))
 (pss_cons (ps_if (pt_cmpR op_notIn_seq (pv 2) (pe_lst (pa_cons pe_str (pa_cons pe_str (pa_cons pe_str (pa_cons pe_str (pa_cons pe_str (pa_cons pe_str (pa_cons pe_str pa_nil)))))))) (by rfl))
 (pss_one (ps_ret (pe_tup (pa_cons pe_bl (pa_cons (pe_op op_add (pv 1) pe_int) pa_nil)))))
 pss_nil)
 (pss_cons (ps_if (pt_cmpR op_eq (pv 2) pe_str (nomark _))
 (pss_one (ps_ret (pe_tup (pa_cons pe_bl (pa_cons (pe_op op_add (pv 1) pe_int) pa_nil)))))
 pss_nil)
 (pss_cons (ps_if (pt_cmpR op_eq (pv 2) pe_str (nomark _))
 (pss_one (ps_ret (pe_call GMe.ok (hr.mono (by decide)) (by rfl) GMe.m GMe.kp GMe.b .nil pass0 (pa_cons (pv 0) (pa_cons (pe_op op_add (pv 1) pe_int) pa_nil)))))
 pss_nil)
 (C8.pss_cut (ps_asg (pe_ifExp (pt_cmpR op_eq (pv 2) pe_str (nomark _)) (pe_tup (pa_cons pe_int (pa_cons pe_int pa_nil))) (pe_ifExp (pt_cmpR op_eq (pv 2) pe_str (nomark _)) (pe_tup (pa_cons pe_int (pa_cons pe_int pa_nil))) (pe_tup (pa_cons pe_int (pa_cons pe_int pa_nil))))) (pg_tup (by rfl) (pgs_cons (pg_name (i := 3) scPe.nd rfl (by first | exact Or.inl rfl | exact Or.inr rfl)) (pgs_cons (pg_name (i := 4) scPe.nd rfl (by first | exact Or.inl rfl | exact Or.inr rfl)) pgs_nil))))
 (pss_cons (ps_set (i := 5) scPe.nd rfl (by first | exact Or.inl rfl | exact Or.inr rfl) (pe_call GNe.ok (hr.mono (by decide)) (by rfl) GNe.m GNe.kp GNe.b .nil pass0 (pa_cons (pv 0) (pa_cons (pe_op op_add (pv 1) pe_int) (pa_cons (pv 4) pa_nil)))))
 (pss_one (ps_ret (pe_tup (pa_cons (pe_cmpR op_ge (pv 5) (pe_op op_add (pe_op op_add (pv 1) pe_int) (pv 3)) (nomark _)) (pa_cons (pv 5) pa_nil)))))))))))), ?_⟩
  have h2s : (2 : Nat) ≤ sizeLine := by decide
  have ret : ∀ (g : Bool) (e : Nat) (H3 : Hp), Same H H3 → ResA W a (pPart (W.drop a)) g e → ∀ x, H3 x = none → Q (.ref x) (upd H3 x (.tup [.bl g, .int (e : Nat)])) := fun g e H3 s3 r x hx => q x g e _ (s3.trans (same_upd hx _)) upd_same r
  refine ⟨_, rfl, _, rfl, L, _, rfl, .inl (SqL.of wl.at_), _, _, rfl, rfl, _, rfl, ?_⟩
  rw [List.length_map]
  cases hR : W.drop a with
  | nil =>
    have hl := dr_nil hR
    rw [decide_eq_true (by omega)]
    refine iteT (iteT ⟨_, rfl, h2s, fun x hx => ret false a H (Same.refl H) ?_ x hx⟩)
    rw [hR]
    exact ResA.bad (m := 0)
  | cons z R =>
    obtain ⟨h1, h2, h3⟩ := dr_cons hR
    obtain ⟨g1, g2, g3⟩ := wl.get hR
    rw [decide_eq_false (by omega)]
    refine iteF ⟨_, rfl, _, rfl, L, _, _, _, rfl, rfl, SqL.of wl.at_, g1, z, rfl, g2, fun H1 s1 => ⟨_, rfl, ?_⟩⟩
    have w1 := wl.same s1
    rw [hR, pPart_cons] at ret
    cases hz : nameB z with
    | false =>
      rw [hz] at ret
      exact iteT ⟨_, rfl, h2s, fun x hx => ret false a H1 s1 (ResA.bad (m := 0)) x hx⟩
    | true =>
      rw [hz, if_pos rfl] at ret
      refine iteF ⟨fun σ' H2 => ∃ k, σ' = [some (.ref L), some (.int (a : Nat)), some (.str k), none, none, none] ∧ H2 = H1 ∧ k = R.headD "", ?_, ?_⟩
      · refine ⟨_, rfl, a, 1, rfl, rfl, _, rfl, L, _, rfl, .inl (SqL.of w1.at_), _, _, rfl, rfl, _, rfl, ?_⟩
        rw [List.length_map]
        cases R with
        | nil =>
          have hl := dr_nil h3
          rw [decide_eq_false (by omega)]
          exact iteF ⟨_, rfl, rfl, rfl⟩
        | cons k R =>
          obtain ⟨j1, j2, j3⟩ := dr_cons h3
          obtain ⟨k1, k2, k3⟩ := w1.get h3
          rw [decide_eq_true (by omega)]
          exact iteT ⟨_, rfl, _, rfl, a, 1, rfl, rfl, L, _, _, _, rfl, rfl, SqL.of w1.at_, k1, _, rfl, rfl, rfl⟩
      · rintro σ' H2 ⟨k, rfl, rfl, hk⟩
        refine ⟨_, rfl, (by show 7 ≤ sizeLine; decide), fun c hc => ?_⟩
        have s2 := same_upd hc (.lst (kinds7.map V.str))
        have hc' : upd H2 c (.lst (kinds7.map V.str)) c = some (.lst (kinds7.map V.str)) := upd_same
        have s12 := s1.trans s2
        have e0 : upd H2 c (.lst (kinds7.map V.str)) = upd H2 c (.lst [V.str "source", V.str "mix", V.str "plain", V.str "odd", V.str "keep", V.str "pair", V.str "use"]) := rfl
        rw [← e0]
        generalize upd H2 c (.lst (kinds7.map V.str)) = H3 at s12 hc' ⊢
        have w3 := wl.same s12
        refine ⟨c, _, rfl, .inl (SqL.of hc'), rfl, flat_strs _, ?_⟩
        rw [in_strs2]
        by_cases hk7 : k ∈ kinds7
        · rw [decide_eq_true hk7]
          obtain ⟨R1, eR⟩ : ∃ R1, R = k :: R1 := by
            cases R with
            | nil =>
              rw [hk] at hk7
              exact absurd hk7 (by decide +kernel)
            | cons y R1 => exact ⟨R1, by rw [hk]; rfl⟩
          subst eR
          have h4 := (dr_cons h3).2.2
          rw [pKind_ok hk7] at ret
          refine ⟨_, rfl, iteF ?_⟩
          refine ⟨_, rfl, rfl, _, rfl, ?_⟩
          by_cases c1 : k = "source"
          · subst c1
            rw [decide_eq_true rfl]
            exact iteT ⟨_, rfl, a, 2, rfl, rfl, h2s, fun x hx => ret true (a + 2) H3 s12 (ResA.sh (m := 1) (ResA.sh (m := 1) (ResA.good (m := 0)))) x hx⟩
          rw [decide_eq_false (fun e => c1 (V.str.inj e))]
          refine iteF ⟨_, rfl, rfl, _, rfl, ?_⟩
          by_cases c2 : k = "mix"
          · subst c2
            rw [decide_eq_true rfl]
            refine iteT ⟨_, rfl, _, rfl, a, 2, rfl, rfl, L, W, a + 2, rfl, w3, fun t g e H4 s4 ht hr => ?_⟩
            refine q t g e H4 (s12.trans s4) ht ?_
            rw [hR, pPart_cons, hz, if_pos rfl, pKind_ok hk7]
            rw [show pTail ("mix" : Str) R1 = pTerms R1 by unfold pTail; rw [if_neg c1, if_pos rfl]]
            rw [show W.drop (a + 2) = R1 from h4] at hr
            exact ResA.sh (m := 1) (ResA.sh (m := 1) hr)
          rw [decide_eq_false (fun e => c2 (V.str.inj e))]
          have fin : ∀ (H4 : Hp), Same H H4 → ∀ x, H4 x = none → Q (.ref x) (upd H4 x (.tup [.bl (decide ((lohi k).1 ≤ pNames (lohi k).2 R1)), .int ((a + 2 + pNames (lohi k).2 R1 : Nat) : Int)])) := fun H4 s4 x hx => ret _ _ H4 s4 (ResA.sh (m := 1) (ResA.sh (m := 1) (tail_names c1 c2))) x hx
          refine iteF ⟨fun σ' H4 => σ' = [some (.ref L), some (.int (a : Nat)), some (.str k), some (.int ((lohi k).1 : Nat)), some (.int ((lohi k).2 : Nat)), none] ∧ Same H H4, ?_, ?_⟩
          · refine ⟨_, rfl, rfl, _, rfl, ?_⟩
            by_cases c3 : k = "use"
            · subst c3
              rw [decide_eq_true rfl]
              refine iteT ⟨h2s, fun t1 ht1 => ?_⟩
              refine ⟨t1, _, rfl, SqT.of upd_same, rfl, _, _, rfl, _, _, rfl, rfl, ?_⟩
              exact ⟨by unfold lohi; rw [if_pos rfl]; rfl, s12.trans (same_upd ht1 _)⟩
            rw [decide_eq_false (fun e => c3 (V.str.inj e))]
            refine iteF ⟨_, rfl, rfl, _, rfl, ?_⟩
            by_cases c4 : k = "pair"
            · subst c4
              rw [decide_eq_true rfl]
              refine iteT ⟨h2s, fun t1 ht1 => ?_⟩
              refine ⟨t1, _, rfl, SqT.of upd_same, rfl, _, _, rfl, _, _, rfl, rfl, ?_⟩
              exact ⟨by unfold lohi; rw [if_neg c3, if_pos rfl]; rfl, s12.trans (same_upd ht1 _)⟩
            rw [decide_eq_false (fun e => c4 (V.str.inj e))]
            refine iteF ⟨h2s, fun t1 ht1 => ?_⟩
            refine ⟨t1, _, rfl, SqT.of upd_same, rfl, _, _, rfl, _, _, rfl, rfl, ?_⟩
            exact ⟨by unfold lohi; rw [if_neg c3, if_neg c4]; rfl, s12.trans (same_upd ht1 _)⟩
          · rintro σ' H4 ⟨rfl, s4⟩
            have w4 := wl.same s4
            have hb : (lohi k).2 ≤ 10 := by unfold lohi; split; · decide
                                            split <;> decide
            refine ⟨_, rfl, _, rfl, a, 2, rfl, rfl, _, rfl, L, W, a + 2, (lohi k).2, rfl, w4, hb, fun H5 s5 => ?_⟩
            rw [show W.drop (a + 2) = R1 from h4]
            refine ⟨_, rfl, _, rfl, a, 2, rfl, rfl, _, rfl, _, _, rfl, rfl, _, _, rfl, rfl, _, rfl, h2s, fun x hx => ?_⟩
            have := fin H5 (s4.trans s5) x hx
            rw [show decide ((lohi k).1 ≤ pNames (lohi k).2 R1) = decide (((a : Int) + 2 + ((lohi k).1 : Int)) ≤ ((a + 2 + pNames (lohi k).2 R1 : Nat) : Int)) from decide_eq_decide.mpr (by omega)] at this
            exact this
        · rw [decide_eq_false hk7]
          have hno : pKind R = .er 0 := pKind_no fun y R' e => by
            rw [e] at hk
            have : k = y := hk
            rw [← this]
            exact hk7
          rw [hno] at ret
          exact ⟨_, rfl, iteT ⟨_, rfl, a, 1, rfl, rfl, h2s, fun x hx => ret false (a + 1) H3 s12 (ResA.bad (m := 1)) x hx⟩⟩
/-! a whole text -/
def wrI (x : RR) (a : Nat) : Int := match x with
  | .er k => ((a + k : Nat) : Int)
  | .ok _ _ => -1
theorem wrI_up {x : RR} {a m : Nat} : wrI (x.up m) a = wrI x (a + m) := by
  cases x with
  | ok n r => rfl
  | er n => show ((a + (m + n) : Nat) : Int) = ((a + m + n : Nat) : Int); rw [Nat.add_assoc]
theorem end_wr {R : List Str} {a N : Nat} (h : R.length + a = N) : wrI (pEnd R) a = if decide (((a + pNames 4 R : Nat) : Int) = (N : Int)) = true then (if decide (((a : Nat) : Int) < ((a + pNames 4 R : Nat) : Int)) = true then -1 else ((a + pNames 4 R : Nat) : Int)) else ((a + pNames 4 R : Nat) : Int) := by
  cases R with
  | nil =>
    rw [pNames_nil]
    rw [decide_eq_false (show ¬ ((a : Nat) : Int) < ((a + 0 : Nat) : Int) by omega)]
    show ((a + 0 : Nat) : Int) = _
    split <;> rfl
  | cons z R =>
    cases hz : nameB z with
    | false =>
      rw [pNames_non hz]
      rw [decide_eq_false (show ¬ ((a : Nat) : Int) < ((a + 0 : Nat) : Int) by omega)]
      show wrI ((pName (z :: R)).bind _) a = _
      rw [pName_cons, hz]
      show ((a + 0 : Nat) : Int) = _
      split <;> rfl
    | true =>
      rw [pNames_yes hz]
      show wrI ((pName (z :: R)).bind _) a = _
      rw [pName_cons, hz, if_pos rfl]
      show wrI ((if R.drop (pNames 3 R) = [] then RR.ok (pNames 3 R) [] else .er (pNames 3 R)).up 1) a = _
      rw [decide_eq_true (show ((a : Nat) : Int) < ((a + (pNames 3 R + 1) : Nat) : Int) by omega), wrI_up]
      have hl : (R.drop (pNames 3 R)).length = R.length - pNames 3 R := List.length_drop
      have le := pNames_le 3 R
      rw [List.length_cons] at h
      by_cases e : R.drop (pNames 3 R) = []
      · rw [if_pos e]
        rw [e, List.length_nil] at hl
        rw [decide_eq_true (show ((a + (pNames 3 R + 1) : Nat) : Int) = (N : Int) by omega)]
        rfl
      · rw [if_neg e]
        have : (R.drop (pNames 3 R)).length ≠ 0 := fun z => e (List.length_eq_zero_iff.mp z)
        rw [decide_eq_false (show ¬ ((a + (pNames 3 R + 1) : Nat) : Int) = (N : Int) by omega)]
        show ((a + 1 + pNames 3 R : Nat) : Int) = _
        rw [show a + (pNames 3 R + 1) = a + 1 + pNames 3 R by omega]
        rfl
def spWw : Sp := fun vs H Q _ => ∃ (L : Addr) (W : List Str), vs = [.ref L] ∧ WL H L W ∧ ∀ H', Same H H' → Q (.int (wrI (pNet (W.length + 1) W) 0)) H'
abbrev sWw : Stmt := top 80
theorem scWw : FnScope ["_law_words_here", "_law_at", "_law_k", "_law_end", "_law_good"] ["_law_words_here"] (defScope sWw) := ⟨rfl, rfl, rfl, by decide +kernel, rfl, by decide +kernel, by decide +kernel⟩
theorem ok_lawWrong {f gE gP : Addr} {fd dE dP : FuncData} (F : Fun K "_law_wrong_word" "_law_wrong_word" sWw f fd) (GNe : Df P w K mg base 2 gE dE "_law_names_end" ["_law_words_here", "_law_at", "_law_most"] spNe) (GPe : Df P w K mg base 3 gP dP "_law_part_end" ["_law_words_here", "_law_at"] (spEnd pPart)) (mlen : mg "len" = none) (mrange : mg "range" = none) : FnOk P w K mg base CX0 4 f fd ["_law_words_here"] spWw := by
  refine F.ok scWw (fun vs H Q E h => ?_) (fun cdv A outer s H vs Q E hr h => ?_)
  · obtain ⟨L, W, rfl, _⟩ := h
    rfl
  obtain ⟨L, W, rfl, wl, q⟩ := h
  refine ⟨_, (pss_cons (ps_set (i := 1) scWw.nd rfl (by first | exact Or.inl rfl | exact Or.inr rfl) pe_int)
 (pss_cons (ps_for PassesOwn.never rfl (pi_range1 (by rfl) mrange (pa_cons (pe_op op_add (pe_callB call_len_seq (by rfl) mlen PySem.boot_len (pa_cons (pv 0) pa_nil)) pe_int) pa_nil)) (pg_name (i := 2) scWw.nd rfl (by first | exact Or.inl rfl | exact Or.inr rfl))
 (C8.pss_cut (ps_if (PW.pt (pw_and (pt_cmpR op_lt (pv 1) (pe_callB call_len_seq (by rfl) mlen PySem.boot_len (pa_cons (pv 0) pa_nil)) (nomark _)) (pw_and1 (pt_cmpR op_eq (pe_ix ix_list (pv 0) (pv 1) (fun _ _ => rfl)) pe_str (nomark _)))))
 (pss_cons (ps_set (i := 3) scWw.nd rfl (by first | exact Or.inl rfl | exact Or.inr rfl) (pe_call GNe.ok (hr.mono (by decide)) (by rfl) GNe.m GNe.kp GNe.b .nil pass0 (pa_cons (pv 0) (pa_cons (pe_op op_add (pv 1) pe_int) (pa_cons pe_int pa_nil)))))
 (pss_one (ps_ret (pe_ifExp (PW.pt (pw_and (pt_cmpR op_eq (pv 3) (pe_callB call_len_seq (by rfl) mlen PySem.boot_len (pa_cons (pv 0) pa_nil)) (nomark _)) (pw_and1 (pt_cmpR op_gt (pv 3) (pe_op op_add (pv 1) pe_int) (nomark _))))) (pe_un un_neg pe_int) (pv 3)))))
 pss_nil)
 (pss_cons (ps_asg (pe_call GPe.ok (hr.mono (by decide)) (by rfl) GPe.m GPe.kp GPe.b .nil pass0 (pa_cons (pv 0) (pa_cons (pv 1) pa_nil))) (pg_tup (by rfl) (pgs_cons (pg_name (i := 4) scWw.nd rfl (by first | exact Or.inl rfl | exact Or.inr rfl)) (pgs_cons (pg_name (i := 1) scWw.nd rfl (by first | exact Or.inl rfl | exact Or.inr rfl)) pgs_nil))))
 (pss_cons (ps_if (PW.pt (pw_or (pt_not (pt_truth (pv 4) (by intro _; rfl))) (pw_or (pt_cmpR op_ge (pv 1) (pe_callB call_len_seq (by rfl) mlen PySem.boot_len (pa_cons (pv 0) pa_nil)) (nomark _)) (pw_or1 (pt_cmpR op_ne (pe_ix ix_list (pv 0) (pv 1) (fun _ _ => rfl)) pe_str (nomark _))))))
 (pss_one (ps_ret (pv 1)))
 pss_nil)
 (pss_one (ps_set (i := 1) scWw.nd rfl (by first | exact Or.inl rfl | exact Or.inr rfl) (pe_op op_add (pv 1) pe_int)))))))
 (pss_one (ps_ret (pv 1))))), ?_⟩
  refine ⟨_, rfl, L, _, rfl, .inl (SqL.of wl.at_), _, 1, rfl, rfl, _, rfl, ?_⟩
  rw [List.length_map]
  have hW := wl.le
  refine ⟨by omega, by omega, ?_⟩
  rw [show ((W.length : Int) + 1).toNat = W.length + 1 by omega]
  refine for_range (lo := 0) (n := W.length + 1) (fun i σ' H2 => ∃ b v2 v3 v4, σ' = [some (.ref L), some (.int (b : Nat)), v2, v3, v4] ∧ Same H H2 ∧ wrI (pNet (W.length + 1 - i) (W.drop b)) b = wrI (pNet (W.length + 1) W) 0) ⟨0, none, none, none, rfl, Same.refl H, rfl⟩ ?_ ?_
  · rintro i σ' H2 hi ⟨b, v2, v3, v4, rfl, s2, e⟩
    have w2 := wl.same s2
    obtain ⟨m, em⟩ : ∃ m, W.length + 1 - i = m + 1 := ⟨W.length - i, by omega⟩
    have em' : W.length + 1 - (i + 1) = m := by omega
    rw [em] at e
    rw [em']
    refine ⟨fun σ' H3 => ∃ v2' v3' v4', σ' = [some (.ref L), some (.int (b : Nat)), v2', v3', v4'] ∧ H2 = H3 ∧ ¬ headV (W.drop b) = V.str ">", ?_, ?_⟩
    · refine ⟨_, rfl, _, rfl, L, _, rfl, .inl (SqL.of w2.at_), _, _, rfl, rfl, _, rfl, ?_⟩
      rw [List.length_map]
      cases hR : W.drop b with
      | nil =>
        have hl := dr_nil hR
        rw [decide_eq_false (by omega)]
        exact iteF ⟨_, _, _, rfl, rfl, fun z => nomatch z⟩
      | cons z R =>
        obtain ⟨h1, h2, h3⟩ := dr_cons hR
        obtain ⟨g1, g2, g3⟩ := w2.get hR
        rw [decide_eq_true (by omega)]
        refine iteT ⟨_, rfl, _, rfl, L, _, _, _, rfl, rfl, SqL.of w2.at_, g1, rfl, _, rfl, ?_⟩
        by_cases hz : z = ">"
        · subst hz
          rw [decide_eq_true rfl]
          refine iteT ⟨_, rfl, _, rfl, b, 1, rfl, rfl, L, W, b + 1, 4, rfl, w2, by decide, fun H3 s3 => ?_⟩
          have w3 := w2.same s3
          rw [hR, pNet_gt, wrI_up, end_wr (N := W.length) (by rw [← h3, List.length_drop]; omega)] at e
          rw [h3]
          have qq := q H3 (s2.trans s3)
          rw [← e] at qq
          refine ⟨_, rfl, _, rfl, L, _, rfl, .inl (SqL.of w3.at_), rfl, _, rfl, ?_⟩
          rw [List.length_map]
          rw [show decide (V.int ((b + 1 + pNames 4 R : Nat) : Int) = V.int (W.length : Int)) = decide (((b + 1 + pNames 4 R : Nat) : Int) = (W.length : Int)) from decide_eq_decide.mpr ⟨fun z => V.int.inj z, fun z => congrArg V.int z⟩]
          cases hd : decide (((b + 1 + pNames 4 R : Nat) : Int) = (W.length : Int)) with
          | false =>
            rw [hd] at qq
            exact iteF (iteF ⟨_, rfl, qq⟩)
          | true =>
            rw [hd] at qq
            refine iteT ⟨_, rfl, _, rfl, b, 1, rfl, rfl, _, _, rfl, rfl, _, rfl, ?_⟩
            rw [show decide (((b : Int) + 1) < ((b + 1 + pNames 4 R : Nat) : Int)) = decide (((b + 1 : Nat) : Int) < ((b + 1 + pNames 4 R : Nat) : Int)) from rfl]
            cases hd2 : decide (((b + 1 : Nat) : Int) < ((b + 1 + pNames 4 R : Nat) : Int)) with
            | false =>
              rw [hd2] at qq
              exact iteF ⟨_, rfl, qq⟩
            | true =>
              rw [hd2] at qq
              exact iteT ⟨1, rfl, qq⟩
        · rw [decide_eq_false (fun e => hz (V.str.inj e))]
          exact iteF ⟨_, _, _, rfl, rfl, fun e => hz (V.str.inj e)⟩
    · rintro σ' H3 ⟨v2', v3', v4', rfl, rfl, hgt⟩
      rw [pNet_no hgt] at e
      refine ⟨_, rfl, _, rfl, L, W, b, rfl, w2, fun t g e' H3 s3 ht hr => ?_⟩
      have w3 := w2.same s3
      have s23 := s2.trans s3
      refine ⟨t, _, rfl, SqT.of ht, rfl, _, _, rfl, _, _, rfl, rfl, ?_⟩
      have back : wrI ((pPart (W.drop b)).bind (pSemi (pNet m))) b = (e' : Int) → Q (.int (e' : Nat)) H3 := fun z => by
        rw [← z, e]
        exact q H3 s23
      refine ⟨_, rfl, g, rfl, ?_⟩
      cases g with
      | false =>
        refine iteT (iteT ⟨_, rfl, back ?_⟩)
        cases hp : pPart (W.drop b) with
        | ok n r => rw [hp] at hr; cases hr.1
        | er n =>
          rw [hp] at hr
          rw [hr.1]
          rfl
      | true =>
        have key : (∃ n, pPart (W.drop b) = .er n ∧ e' = b + n ∧ ¬ headV (W.drop e') = V.str ";") ∨ ∃ n, pPart (W.drop b) = .ok n (W.drop e') ∧ e' = b + n := by
          have gd := pPart_good (W.drop b)
          cases hp : pPart (W.drop b) with
          | er n =>
            rw [hp] at hr
            exact .inl ⟨n, rfl, hr.1, hr.2 rfl⟩
          | ok n r =>
            rw [hp] at hr gd
            obtain ⟨_, gd2⟩ := (show n ≤ (W.drop b).length ∧ r = (W.drop b).drop n from gd)
            refine .inr ⟨n, ?_, hr.2⟩
            rw [gd2, List.drop_drop, hr.2]
        have out : ¬ headV (W.drop e') = V.str ";" → wrI ((pPart (W.drop b)).bind (pSemi (pNet m))) b = (e' : Int) := fun hn => by
          rcases key with ⟨n, hp, he, _⟩ | ⟨n, hp, he⟩
          · rw [hp, he]
            rfl
          · rw [hp]
            show wrI ((pSemi (pNet m) (W.drop e')).up n) b = _
            have e0 : pSemi (pNet m) (W.drop e') = .er 0 := by
              cases hD : W.drop e' with
              | nil => rfl
              | cons y C1 => exact if_neg (fun e => hn (by rw [hD, e]; rfl))
            rw [e0, he]
            rfl
        refine iteF ⟨_, rfl, _, rfl, L, _, rfl, .inl (SqL.of w3.at_), _, _, rfl, rfl, _, rfl, ?_⟩
        rw [List.length_map]
        cases hC : W.drop e' with
        | nil =>
          have hl := dr_nil hC
          rw [decide_eq_true (by omega)]
          exact iteT (iteT ⟨_, rfl, back (out (by rw [hC]; exact fun z => nomatch z))⟩)
        | cons y C1 =>
          obtain ⟨r1, r2, r3⟩ := dr_cons hC
          obtain ⟨t1, t2, t3⟩ := w3.get hC
          rw [decide_eq_false (by omega)]
          refine iteF ⟨_, rfl, _, rfl, L, _, _, _, rfl, rfl, SqL.of w3.at_, t1, rfl, _, rfl, ?_⟩
          by_cases hc : y = ";"
          · subst hc
            rw [decide_eq_true rfl]
            refine iteF ⟨_, rfl, e', 1, rfl, rfl, e' + 1, _, _, _, rfl, s23, ?_⟩
            rw [r3, ← e]
            rcases key with ⟨n, hp, he, hn⟩ | ⟨n, hp, he⟩
            · exact absurd (by rw [hC]; rfl) hn
            · rw [hp, hC]
              show _ = wrI ((pSemi (pNet m) ((";" : Str) :: C1)).up n) b
              have e0 : pSemi (pNet m) ((";" : Str) :: C1) = (pNet m C1).up 1 := by
                show (if (";" : Str) = ";" then (pNet m C1).up 1 else .er 0) = _
                rw [if_pos rfl]
              rw [e0, wrI_up, wrI_up, he]
          · rw [decide_eq_false (fun e => hc (V.str.inj e))]
            exact iteT ⟨_, rfl, back (out (by rw [hC]; exact fun e => hc (V.str.inj e)))⟩
  · rintro σ' H2 ⟨b, v2, v3, v4, rfl, s2, e⟩
    refine ⟨_, rfl, ?_⟩
    rw [Nat.sub_self] at e
    rw [show ((b : Nat) : Int) = wrI (pNet 0 (W.drop b)) b from rfl, e]
    exact q H2 s2
end
end Un
namespace Un
open PySem L2 TL
section
variable {P : Program} {w : World} {K : PySem.W.Frag} {mg : Str → Option Value} {base : Heap}
open XV
/-! ### a text is bent -/
theorem bag_at {H : Hp} {b c : Addr} (B : Bag H b c) : ∃ x1 x2 x3 x4 : Int, H b = some (.lst [.ref c, .int x1, .int x2, .int x3, .int x4]) := by
  obtain ⟨ns, p, r, s, k, hb⟩ := B
  exact ⟨_, _, _, _, hb.lb⟩
theorem strs_nb {H : Hp} {b c o : Addr} {os : List Str} (h : H o = some (.lst (os.map V.str))) (B : Bag H b c) : o ≠ b := fun e => by
  obtain ⟨x1, x2, x3, x4, hb⟩ := bag_at B
  rw [e, hb] at h
  injection h with h
  injection h with h
  cases os with
  | nil => cases h
  | cons x r => cases h
theorem cutD {W : List Str} {a : Nat} : cutV (W.map V.str) (some (a : Int)) none = (W.drop a).map V.str := by
  unfold cutV
  rw [HT.sIx_nat, HT.sIx_none, List.length_map, List.take_of_length_le (by rw [List.length_drop, List.length_map]; exact Nat.le_refl _), ← List.map_drop]
  by_cases h : a ≤ W.length
  · rw [Nat.min_eq_left h]
  · rw [Nat.min_eq_right (by omega), List.drop_eq_nil_iff.mpr (Nat.le_refl _), List.drop_eq_nil_iff.mpr (show W.length ≤ a by omega)]
theorem cutT {W : List Str} {a : Nat} : cutV (W.map V.str) none (some (a : Int)) = (W.take a).map V.str := by
  unfold cutV
  rw [HT.sIx_nat, HT.sIx_none, List.length_map, List.drop_zero, Nat.sub_zero, List.map_take]
  by_cases h : a ≤ W.length
  · rw [Nat.min_eq_left h]
  · rw [Nat.min_eq_right (by omega), List.take_of_length_le (by rw [List.length_map]; exact Nat.le_refl _), List.take_of_length_le (by rw [List.length_map]; omega)]
theorem cutDT {W : List Str} {a : Nat} (h : a ≤ W.length) : cutV (W.map V.str) (some (a : Int)) (some ((a + 1 : Nat) : Int)) = ((W.drop a).take 1).map V.str := by
  unfold cutV
  rw [HT.sIx_nat, HT.sIx_nat, List.length_map, Nat.min_eq_left h, List.map_take, List.map_drop]
  by_cases h' : a + 1 ≤ W.length
  · rw [Nat.min_eq_left h', show a + 1 - a = 1 by omega]
  · rw [Nat.min_eq_right (by omega), show W.length - a = 0 by omega, List.drop_eq_nil_iff.mpr (by rw [List.length_map]; omega)]
    rfl
def semis (W : List Str) : Nat := (W.filter fun (z : Str) => decide (z = (";" : Str))).length
theorem semis_app (a b : List Str) : semis (a ++ b) = semis a + semis b := by unfold semis; rw [List.filter_append, List.length_append]
theorem semis_le (a : List Str) : semis a ≤ a.length := List.length_filter_le _ _
theorem semis_sub {a b : List Str} (h : List.Sublist a b) : semis a ≤ semis b := (h.filter _).length_le
theorem semis_cut (W : List Str) (a : Nat) : semis W = semis (W.take a) + semis (W.drop a) := by rw [← semis_app, List.take_append_drop]
structure Bent (W W' : List Str) : Prop where
  wc : ∀ z ∈ W', WC z
  le : W'.length ≤ W.length + 1
  semi : semis W' ≤ semis W + 1
theorem drop_sub (W : List Str) (a : Nat) : List.Sublist (W.drop (a + 1)) (W.drop a) := by
  rw [← List.drop_drop]
  exact List.drop_sublist _ _
theorem bent_mid {W X Y : List Str} {a : Nat} (hw : ∀ z ∈ W, WC z) (hx : ∀ z ∈ X, WC z) (hy : ∀ z ∈ Y, WC z) (h1 : X.length + Y.length ≤ (W.drop a).length + 1) (h2 : semis X + semis Y ≤ semis (W.drop a) + 1) : Bent W (W.take a ++ X ++ Y) := by
  refine ⟨fun z hz => ?_, ?_, ?_⟩
  · rcases List.mem_append.mp hz with hz | hz
    · rcases List.mem_append.mp hz with hz | hz
      · exact hw z (List.mem_of_mem_take hz)
      · exact hx z hz
    · exact hy z hz
  · rw [List.length_append, List.length_append, List.length_take]
    rw [List.length_drop] at h1
    omega
  · rw [semis_app, semis_app, semis_cut W a]
    omega
abbrev LIT23 : List Str := [";", ",", ">", "late", "mix", "use", "source", "pair", "", "0", "-0", "5", "-7", "99", "100", "-100", "07", "+1", "1-", "a1", "A", "abcde", "a/b"]
theorem lit_wc {z : Str} (h : z ∈ LIT23) : WC z := by
  have all : ∀ y ∈ LIT23, y ∈ LITS ∨ y = dec 0 ∨ y = dec 5 ∨ y = dec (-7) ∨ y = dec 99 := by decide +kernel
  rcases all z h with h | h | h | h | h
  · exact .lit h
  · exact .dec 0 (by decide) (by decide) h
  · exact .dec 5 (by decide) (by decide) h
  · exact .dec (-7) (by decide) (by decide) h
  · exact .dec 99 (by decide) (by decide) h
def spBt : Sp := fun vs H Q _ => ∃ (b c L M : Addr) (W ns : List Str), vs = [.ref b, .ref L, .ref M] ∧ Bag H b c ∧ H L = some (.lst (W.map V.str)) ∧ W.length ≤ 900 ∧ (∀ z ∈ W, WC z) ∧ H M = some (.lst (ns.map V.str)) ∧ ns.length ≤ 20 ∧ (∀ z ∈ ns, IsNm z) ∧
  ∀ (t : Addr) (W' : List Str) (H' : Hp), Bag H' b c → Kp b H H' → H' t = some (.lst (W'.map V.str)) → Bent W W' → Q (.ref t) H'
abbrev sBt : Stmt := top 81
theorem scBt : FnScope ["_law_bag_here", "_law_words_here", "_law_more", "_law_at", "_law_way", "_law_word"] ["_law_bag_here", "_law_words_here", "_law_more"] (defScope sBt) := ⟨rfl, rfl, rfl, by decide +kernel, rfl, by decide +kernel, by decide +kernel⟩
theorem ok_lawBent {f gP gA : Addr} {fd dP dA : FuncData} (F : Fun K "_law_bent" "_law_bent" sBt f fd) (GP : Df P w K mg base 1 gP dP "_law_pull" ["_law_bag_here", "_law_many"] spPull) (GA : Df P w K mg base 2 gA dA "_law_any" ["_law_bag_here", "_law_things"] (spAny K)) (mlen : mg "len" = none) (mint : mg "int" = none) : FnOk P w K mg base CX0 3 f fd ["_law_bag_here", "_law_words_here", "_law_more"] spBt := by
  refine F.ok scBt (fun vs H Q E h => ?_) (fun cdv A outer s H vs Q E hr h => ?_)
  · obtain ⟨b, c, L, M, W, ns, rfl, _⟩ := h
    rfl
  obtain ⟨b, c, L, M, W, ns, rfl, B, hL, hWl, hw, hM, hnl, hn, q⟩ := h
  refine ⟨_, (pss_cons (ps_par (i := 3) (j := 4) rfl scBt.nd rfl rfl (by decide) rfl rfl (pa_cons (pe_call GP.ok (hr.mono (by decide)) (by rfl) GP.m GP.kp GP.b .nil pass0 (pa_cons (pv 0) (pa_cons (pe_op op_add (pe_callB call_len_seq (by rfl) mlen PySem.boot_len (pa_cons (pv 1) pa_nil)) pe_int) pa_nil))) (pa_cons (pe_call GP.ok (hr.mono (by decide)) (by rfl) GP.m GP.kp GP.b .nil pass0 (pa_cons (pv 0) (pa_cons pe_int pa_nil))) pa_nil)) (by rfl))
 (pss_cons (ps_set (i := 5) scBt.nd rfl (by first | exact Or.inl rfl | exact Or.inr rfl) (pe_call GA.ok (hr.mono (by decide)) (by rfl) GA.m GA.kp GA.b .nil pass0 (pa_cons (pv 0) (pa_cons (pe_op op_cat (pe_lst (pa_cons pe_str (pa_cons pe_str (pa_cons pe_str (pa_cons pe_str (pa_cons pe_str (pa_cons pe_str (pa_cons pe_str (pa_cons pe_str (pa_cons pe_str (pa_cons pe_str (pa_cons pe_str (pa_cons pe_str (pa_cons pe_str (pa_cons pe_str (pa_cons pe_str (pa_cons pe_str (pa_cons pe_str (pa_cons pe_str (pa_cons pe_str (pa_cons pe_str (pa_cons pe_str (pa_cons pe_str (pa_cons pe_str pa_nil)))))))))))))))))))))))) (pv 2)) pa_nil))))
 (pss_cons (ps_if (pt_cmpR op_eq (pv 4) pe_int (nomark _))
 (pss_one (ps_ret (pe_op op_cat (pe_slice sl_list (pv 1) po_none (po_some (pv 3))) (pe_slice sl_list (pv 1) (po_some (pe_op op_add (pv 3) pe_int)) po_none))))
 pss_nil)
 (pss_cons (ps_if (pt_cmpR op_eq (pv 4) pe_int (nomark _))
 (pss_one (ps_ret (pe_slice sl_list (pv 1) po_none (po_some (pv 3)))))
 pss_nil)
 (pss_one (ps_ret (pe_op op_cat (pe_op op_cat (pe_slice sl_list (pv 1) po_none (po_some (pv 3))) (pe_ifExp (pt_cmpR op_lt (pv 4) pe_int (nomark _)) (pe_lst (pa_cons (pv 5) pa_nil)) (pe_op op_rep (pe_slice sl_list (pv 1) (po_some (pv 3)) (po_some (pe_op op_add (pv 3) pe_int))) pe_int))) (pe_slice sl_list (pv 1) (po_some (pe_op op_add (pv 3) (pe_callTy call_int1 (by rfl) mint (by decide +kernel) (pa_cons (pe_cmpR op_gt (pv 4) pe_int (nomark _)) pa_nil)))) po_none)))))))), ?_⟩
  have h1000 : (1000 : Nat) ≤ sizeLine := by decide
  have nL := strs_nb hL B
  have nM := strs_nb hM B
  refine ⟨.ref b, rfl, .ref L, rfl, L, _, rfl, .inl (SqL.of hL), _, 1, rfl, rfl, b, c, _, rfl, B, by omega, by rw [List.length_map]; omega, fun d H1 d0 d1 B1 k1 => ?_⟩
  obtain ⟨a, rfl⟩ : ∃ a : Nat, d = (a : Int) := ⟨d.toNat, by omega⟩
  rw [List.length_map] at d1
  have ha : a ≤ W.length := by omega
  refine ⟨.ref b, rfl, b, c, 5, rfl, B1, by decide, by decide, fun e H2 e0 e1 B2 k2 => ⟨_, _, rfl, ?_⟩⟩
  have hM2 := k2 _ _ (k1 _ _ hM nM) nM
  have k12 := k1.trans k2
  refine ⟨.ref b, rfl, (by show 23 ≤ sizeLine; decide), fun c1 hc1 => ?_⟩
  have e0' : (HO.lst [V.str ";", V.str ",", V.str ">", V.str "late", V.str "mix", V.str "use", V.str "source", V.str "pair", V.str "", V.str "0", V.str "-0", V.str "5", V.str "-7", V.str "99", V.str "100", V.str "-100", V.str "07", V.str "+1", V.str "1-", V.str "a1", V.str "A", V.str "abcde", V.str "a/b"]) = .lst (LIT23.map V.str) := rfl
  rw [e0']
  have B3 := B2.upd_new hc1 (.lst (LIT23.map V.str))
  have k3 := k12.new hc1 (.lst (LIT23.map V.str))
  have g1 : upd H2 c1 (.lst (LIT23.map V.str)) c1 = some (.lst (LIT23.map V.str)) := upd_same
  have hM3 := same_upd hc1 (.lst (LIT23.map V.str)) _ _ hM2
  generalize upd H2 c1 (.lst (LIT23.map V.str)) = H3 at B3 k3 g1 hM3 ⊢
  have l23 : (LIT23.map V.str).length = 23 := rfl
  refine ⟨_, rfl, c1, M, _, _, rfl, rfl, g1, hM3, by rw [List.length_map, List.length_map]; show 23 + ns.length ≤ _; omega, fun c2 hc2 => ?_⟩
  have B4 := B3.upd_new hc2 (.lst (LIT23.map V.str ++ ns.map V.str))
  have k4 := k3.new hc2 (.lst (LIT23.map V.str ++ ns.map V.str))
  have g2 : upd H3 c2 (.lst (LIT23.map V.str ++ ns.map V.str)) c2 = some (.lst (LIT23.map V.str ++ ns.map V.str)) := upd_same
  have n2 := (B3.ne_new hc2).1
  generalize upd H3 c2 (.lst (LIT23.map V.str ++ ns.map V.str)) = H4 at B4 k4 g2 ⊢
  refine ⟨b, c, _, _, rfl, B4, .inl ⟨c2, rfl, n2.symm, SqL.of g2⟩, by rw [List.length_append, l23]; omega, by rw [List.length_append, l23, List.length_map]; omega, fun y H5 hy B5 k5 => ?_⟩
  obtain ⟨x, rfl, hx⟩ : ∃ x, y = V.str x ∧ WC x := by
    rcases List.mem_append.mp hy with hy | hy
    · obtain ⟨x, hx, rfl⟩ := List.mem_map.mp hy
      exact ⟨x, rfl, lit_wc hx⟩
    · obtain ⟨x, hx, rfl⟩ := List.mem_map.mp hy
      exact ⟨x, rfl, .nm (hn x hx)⟩
  have k15 := k4.trans k5
  have hL5 := k15 _ _ hL nL
  have wcd : ∀ z ∈ W.drop a, WC z := fun z hz => hw z (List.mem_of_mem_drop hz)
  have ld : (W.drop a).length = W.length - a := List.length_drop
  have ld1 : (W.drop (a + 1)).length = W.length - (a + 1) := List.length_drop
  have fin : ∀ (t : Addr) (X : List V) (W' : List Str) (H6 : Hp), Bag H6 b c → Kp b H H6 → H6 t = none → X = W'.map V.str → Bent W W' → Q (.ref t) (upd H6 t (.lst X)) := fun t X W' H6 B6 k6 ht e bt => by
    subst e
    exact q t W' _ (B6.upd_new ht _) (k6.new ht _) upd_same bt
  refine ⟨_, rfl, rfl, _, rfl, ?_⟩
  by_cases w0 : e = 0
  · subst w0
    rw [decide_eq_true rfl]
    refine iteT ⟨_, rfl, _, rfl, a, rfl, L, _, rfl, SqL.of hL5, fun t1 ht1 => ?_⟩
    rw [cutT]
    have B6 := B5.upd_new ht1 (.lst ((W.take a).map V.str))
    have k6 := k15.new ht1 (.lst ((W.take a).map V.str))
    have f1 : upd H5 t1 (.lst ((W.take a).map V.str)) t1 = some (.lst ((W.take a).map V.str)) := upd_same
    have hL6 := same_upd ht1 (.lst ((W.take a).map V.str)) _ _ hL5
    generalize upd H5 t1 (.lst ((W.take a).map V.str)) = H6 at B6 k6 f1 hL6 ⊢
    refine ⟨_, rfl, _, rfl, a, 1, rfl, rfl, _, rfl, L, _, rfl, SqL.of hL6, fun t2 ht2 => ?_⟩
    rw [show ((a : Int) + 1) = ((a + 1 : Nat) : Int) from rfl, cutD]
    have B7 := B6.upd_new ht2 (.lst ((W.drop (a + 1)).map V.str))
    have k7 := k6.new ht2 (.lst ((W.drop (a + 1)).map V.str))
    have f2 : upd H6 t2 (.lst ((W.drop (a + 1)).map V.str)) t2 = some (.lst ((W.drop (a + 1)).map V.str)) := upd_same
    have f1' := same_upd ht2 (.lst ((W.drop (a + 1)).map V.str)) _ _ f1
    generalize upd H6 t2 (.lst ((W.drop (a + 1)).map V.str)) = H7 at B7 k7 f2 f1' ⊢
    refine ⟨t1, t2, _, _, rfl, rfl, f1', f2, ?_, fun t ht => ?_⟩
    · rw [List.length_map, List.length_map, List.length_take, ld1]
      omega
    refine fin t _ (W.take a ++ W.drop (a + 1)) H7 B7 k7 ht (by rw [List.map_append]) ?_
    have := bent_mid (X := []) (Y := W.drop (a + 1)) (a := a) hw (fun z hz => absurd hz List.not_mem_nil) (fun z hz => hw z (List.mem_of_mem_drop hz)) (by rw [List.length_nil]; omega) (by
      have := semis_sub (drop_sub W a)
      show 0 + _ ≤ _
      omega)
    rw [List.append_nil] at this
    exact this
  rw [decide_eq_false (fun z => w0 (V.int.inj z))]
  refine iteF ⟨_, rfl, rfl, _, rfl, ?_⟩
  by_cases w1 : e = 1
  · subst w1
    rw [decide_eq_true rfl]
    refine iteT ⟨_, rfl, _, rfl, a, rfl, L, _, rfl, SqL.of hL5, fun t1 ht1 => ?_⟩
    rw [cutT]
    refine fin t1 _ (W.take a) H5 B5 k15 ht1 rfl ?_
    have := bent_mid (X := []) (Y := []) (a := a) hw (fun z hz => absurd hz List.not_mem_nil) (fun z hz => absurd hz List.not_mem_nil) (by show 0 + 0 ≤ _; omega) (by show 0 + 0 ≤ _; omega)
    rw [List.append_nil, List.append_nil] at this
    exact this
  rw [decide_eq_false (fun z => w1 (V.int.inj z))]
  refine iteF ⟨_, rfl, _, rfl, a, rfl, L, _, rfl, SqL.of hL5, fun t1 ht1 => ?_⟩
  rw [cutT]
  have B6 := B5.upd_new ht1 (.lst ((W.take a).map V.str))
  have k6 := k15.new ht1 (.lst ((W.take a).map V.str))
  have f1 : upd H5 t1 (.lst ((W.take a).map V.str)) t1 = some (.lst ((W.take a).map V.str)) := upd_same
  have hL6 := same_upd ht1 (.lst ((W.take a).map V.str)) _ _ hL5
  generalize upd H5 t1 (.lst ((W.take a).map V.str)) = H6 at B6 k6 f1 hL6 ⊢
  refine ⟨_, rfl, _, _, rfl, rfl, _, rfl, ?_⟩
  by_cases w4 : e < 4
  · rw [decide_eq_true w4]
    refine iteT ⟨_, rfl, (by show 1 ≤ sizeLine; decide), fun t2 ht2 => ?_⟩
    rw [show [V.str x] = [x].map V.str from rfl]
    generalize hX : [x] = X
    have B7 := B6.upd_new ht2 (.lst (X.map V.str))
    have k7 := k6.new ht2 (.lst (X.map V.str))
    have f2 : upd H6 t2 (.lst (X.map V.str)) t2 = some (.lst (X.map V.str)) := upd_same
    have f1 := same_upd ht2 (.lst (X.map V.str)) _ _ f1
    have hL6 := same_upd ht2 (.lst (X.map V.str)) _ _ hL6
    generalize upd H6 t2 (.lst (X.map V.str)) = H7 at B7 k7 f2 f1 hL6 ⊢
    have xl : X.length = 1 := by rw [← hX]; rfl
    refine ⟨t1, t2, _, _, rfl, rfl, f1, f2, by rw [List.length_map, List.length_map, List.length_take]; omega, fun t3 ht3 => ?_⟩
    rw [← List.map_append]
    have B8 := B7.upd_new ht3 (.lst ((W.take a ++ X).map V.str))
    have k8 := k7.new ht3 (.lst ((W.take a ++ X).map V.str))
    have f3 : upd H7 t3 (.lst ((W.take a ++ X).map V.str)) t3 = some (.lst ((W.take a ++ X).map V.str)) := upd_same
    have hL6 := same_upd ht3 (.lst ((W.take a ++ X).map V.str)) _ _ hL6
    generalize upd H7 t3 (.lst ((W.take a ++ X).map V.str)) = H8 at B8 k8 f3 hL6 ⊢
    refine ⟨_, rfl, _, rfl, _, rfl, _, _, rfl, rfl, .inr ⟨_, rfl, _, _, rfl, rfl, _, rfl, ?_⟩⟩
    obtain ⟨a', ha', ha'2⟩ : ∃ a' : Nat, ((a : Int) + (if decide (2 < e) = true then 1 else 0)) = (a' : Int) ∧ (a' = a ∨ a' = a + 1) := by
      split
      · exact ⟨a + 1, rfl, .inr rfl⟩
      · exact ⟨a, Int.add_zero _, .inl rfl⟩
    rw [ha']
    refine ⟨L, _, rfl, SqL.of hL6, fun t4 ht4 => ?_⟩
    rw [cutD]
    have ld' : (W.drop a').length = W.length - a' := List.length_drop
    have B9 := B8.upd_new ht4 (.lst ((W.drop a').map V.str))
    have k9 := k8.new ht4 (.lst ((W.drop a').map V.str))
    have f4 : upd H8 t4 (.lst ((W.drop a').map V.str)) t4 = some (.lst ((W.drop a').map V.str)) := upd_same
    have f3 := same_upd ht4 (.lst ((W.drop a').map V.str)) _ _ f3
    generalize upd H8 t4 (.lst ((W.drop a').map V.str)) = H9 at B9 k9 f4 f3 ⊢
    refine ⟨t3, t4, _, _, rfl, rfl, f3, f4, by rw [List.length_map, List.length_map, List.length_append, List.length_take]; omega, fun t ht => ?_⟩
    refine fin t _ (W.take a ++ X ++ W.drop a') H9 B9 k9 ht (by simp only [List.map_append]) ?_
    refine bent_mid hw (fun z hz => ?_) (fun z hz => hw z (List.mem_of_mem_drop hz)) (by omega) ?_
    · rw [← hX] at hz
      rw [List.mem_singleton.mp hz]
      exact hx
    · have := semis_le X
      have : semis (W.drop a') ≤ semis (W.drop a) := by
        rcases ha'2 with rfl | rfl
        · exact Nat.le_refl _
        · exact semis_sub (drop_sub W a)
      omega
  · rw [decide_eq_false w4]
    have e4 : e = 4 := by omega
    subst e4
    refine iteF ⟨_, rfl, _, rfl, a, rfl, _, rfl, a, 1, rfl, rfl, _, rfl, L, _, rfl, SqL.of hL6, fun t0 ht0 => ?_⟩
    rw [show ((a : Int) + 1) = ((a + 1 : Nat) : Int) from rfl, cutDT ha]
    have B7 := B6.upd_new ht0 (.lst (((W.drop a).take 1).map V.str))
    have k7 := k6.new ht0 (.lst (((W.drop a).take 1).map V.str))
    have f0 : upd H6 t0 (.lst (((W.drop a).take 1).map V.str)) t0 = some (.lst (((W.drop a).take 1).map V.str)) := upd_same
    have f1 := same_upd ht0 (.lst (((W.drop a).take 1).map V.str)) _ _ f1
    have hL6 := same_upd ht0 (.lst (((W.drop a).take 1).map V.str)) _ _ hL6
    generalize upd H6 t0 (.lst (((W.drop a).take 1).map V.str)) = H7 at B7 k7 f0 f1 hL6 ⊢
    refine ⟨t0, 2, _, rfl, rfl, f0, by decide, by decide, ?_, fun t2 ht2 => ?_⟩
    · rw [List.length_map, List.length_take]
      show min 1 _ * 2 ≤ _
      omega
    rw [show (List.replicate (2 : Int).toNat (((W.drop a).take 1).map V.str)).flatten = (((W.drop a).take 1) ++ ((W.drop a).take 1)).map V.str by
      rw [List.map_append]
      show (List.replicate 2 _).flatten = _
      rw [show (2 : Nat) = 1 + 1 from rfl, List.replicate_succ, List.replicate_one, List.flatten_cons, List.flatten_singleton]]
    obtain ⟨X, hX⟩ : ∃ X, X = ((W.drop a).take 1) ++ ((W.drop a).take 1) := ⟨_, rfl⟩
    rw [← hX]
    have xl : X.length ≤ 2 := by rw [hX, List.length_append, List.length_take]; omega
    have B8 := B7.upd_new ht2 (.lst (X.map V.str))
    have k8 := k7.new ht2 (.lst (X.map V.str))
    have f2 : upd H7 t2 (.lst (X.map V.str)) t2 = some (.lst (X.map V.str)) := upd_same
    have f1 := same_upd ht2 (.lst (X.map V.str)) _ _ f1
    have hL6 := same_upd ht2 (.lst (X.map V.str)) _ _ hL6
    generalize upd H7 t2 (.lst (X.map V.str)) = H8 at B8 k8 f2 f1 hL6 ⊢
    refine ⟨t1, t2, _, _, rfl, rfl, f1, f2, by rw [List.length_map, List.length_map, List.length_take]; omega, fun t3 ht3 => ?_⟩
    rw [← List.map_append]
    have B9 := B8.upd_new ht3 (.lst ((W.take a ++ X).map V.str))
    have k9 := k8.new ht3 (.lst ((W.take a ++ X).map V.str))
    have f3 : upd H8 t3 (.lst ((W.take a ++ X).map V.str)) t3 = some (.lst ((W.take a ++ X).map V.str)) := upd_same
    have hL6 := same_upd ht3 (.lst ((W.take a ++ X).map V.str)) _ _ hL6
    generalize upd H8 t3 (.lst ((W.take a ++ X).map V.str)) = H9 at B9 k9 f3 hL6 ⊢
    refine ⟨_, rfl, _, rfl, _, rfl, _, _, rfl, rfl, .inr ⟨_, rfl, _, _, rfl, rfl, _, rfl, ?_⟩⟩
    obtain ⟨a', ha', ha'2⟩ : ∃ a' : Nat, ((a : Int) + (if decide ((2 : Int) < 4) = true then 1 else 0)) = (a' : Int) ∧ a' = a + 1 := ⟨a + 1, rfl, rfl⟩
    rw [ha']
    refine ⟨L, _, rfl, SqL.of hL6, fun t4 ht4 => ?_⟩
    rw [cutD]
    have ld' : (W.drop a').length = W.length - a' := List.length_drop
    have B10 := B9.upd_new ht4 (.lst ((W.drop a').map V.str))
    have k10 := k9.new ht4 (.lst ((W.drop a').map V.str))
    have f4 : upd H9 t4 (.lst ((W.drop a').map V.str)) t4 = some (.lst ((W.drop a').map V.str)) := upd_same
    have f3 := same_upd ht4 (.lst ((W.drop a').map V.str)) _ _ f3
    generalize upd H9 t4 (.lst ((W.drop a').map V.str)) = H10 at B10 k10 f4 f3 ⊢
    refine ⟨t3, t4, _, _, rfl, rfl, f3, f4, by rw [List.length_map, List.length_map, List.length_append, List.length_take]; omega, fun t ht => ?_⟩
    refine fin t _ (W.take a ++ X ++ W.drop a') H10 B10 k10 ht (by simp only [List.map_append]) ?_
    have hda : (W.drop a).take 1 ++ W.drop (a + 1) = W.drop a := by rw [← List.drop_drop]; exact List.take_append_drop 1 _
    have hdl : ((W.drop a).take 1).length + (W.drop (a + 1)).length = (W.drop a).length := by rw [← List.length_append, hda]
    have hds : semis ((W.drop a).take 1) + semis (W.drop (a + 1)) = semis (W.drop a) := by rw [← semis_app, hda]
    have hl1 : ((W.drop a).take 1).length ≤ 1 := by rw [List.length_take]; omega
    have hs1 := semis_le ((W.drop a).take 1)
    subst ha'2
    refine bent_mid hw (fun z hz => ?_) (fun z hz => hw z (List.mem_of_mem_drop hz)) ?_ ?_
    · rw [hX] at hz
      rcases List.mem_append.mp hz with hz | hz <;> exact wcd z (List.mem_of_mem_take hz)
    · rw [hX, List.length_append]
      omega
    · rw [hX, semis_app]
      omega
end
end Un
namespace Un
open PySem L2 TL
section
variable {P : Program} {w : World} {K : PySem.W.Frag} {mg : Str → Option Value} {base : Heap}
open XV
abbrev sPW : Stmt := top 74
abbrev sWords : Stmt := top 75
theorem cut_from2 (k w : V) (xs : List V) : cutV (k :: w :: xs) (some 2) none = xs := by
  unfold cutV
  have e : HT.sIx (k :: w :: xs).length 0 (some 2) = 2 := by
    rw [show HT.sIx (k :: w :: xs).length 0 (some 2) = min 2 (k :: w :: xs).length from HT.sIx_nat _ 0 2, List.length_cons, List.length_cons]
    omega
  rw [e, HT.sIx_none]
  show List.take ((k :: w :: xs).length - 2) xs = xs
  rw [List.length_cons, List.length_cons]
  exact List.take_of_length_le (by omega)
theorem at0 (x : V) (l : List V) : atI (x :: l) 0 = some x := atI_nat (j := 0) rfl
theorem at1 (x y : V) (l : List V) : atI (x :: y :: l) 1 = some y := atI_nat (j := 1) rfl
theorem scPW : FnScope ["_law_part_here", "_law_found", "_law_at", "_law_term_here"] ["_law_part_here"] (defScope sPW) := ⟨rfl, rfl, rfl, by decide +kernel, rfl, by decide +kernel, by decide +kernel⟩
theorem ok_PW {f : Addr} {fd : FuncData} (F : Fun K "_law_part_words" "_law_part_words" sPW f fd) (mlist : mg "list" = none) (menum : mg "enumerate" = none) (mstr : mg "str" = none) : FnOk P w K mg base CX0 1 f fd ["_law_part_here"] spPartW := by
  refine F.ok scPW (fun vs H Q E h => ?_) (fun cdv A outer s H vs Q E hr h => ?_)
  · obtain ⟨x, p, rfl, _⟩ := h
    rfl
  obtain ⟨x, p, rfl, hp, hs, q⟩ := h
  refine ⟨_, pss_cons (ps_if (pt_cmpR op_eq (pe_ix ix_tup (pv 0) pe_int (fun _ _ => rfl)) pe_str (nomark _))
      (pss_one (ps_ret (pe_op op_cat (pe_lst (pa_cons (pe_ix ix_tup (pv 0) pe_int (fun _ _ => rfl)) (pa_cons pe_str (pa_cons (pe_ix ix_tup (pv 0) pe_int (fun _ _ => rfl)) pa_nil)))) (pe_callTy call_list_of (by rfl) mlist (by decide +kernel) (pa_cons (pe_ix ix_tup (pv 0) pe_int (fun _ _ => rfl)) pa_nil))))) pss_nil)
    (pss_cons (ps_if (pt_cmpR op_ne (pe_ix ix_tup (pv 0) pe_int (fun _ _ => rfl)) pe_str (nomark _))
      (pss_one (ps_ret (pe_op op_cat (pe_lst (pa_cons (pe_ix ix_tup (pv 0) pe_int (fun _ _ => rfl)) (pa_cons (pe_ix ix_tup (pv 0) pe_int (fun _ _ => rfl)) pa_nil))) (pe_callTy call_list_of (by rfl) mlist (by decide +kernel) (pa_cons (pe_slice sl_tup (pv 0) (po_some pe_int) po_none) pa_nil))))) pss_nil)
    (pss_cons (ps_set (i := 1) scPW.nd rfl (Or.inl rfl) (pe_lst (pa_cons (pe_ix ix_tup (pv 0) pe_int (fun _ _ => rfl)) (pa_cons pe_str pa_nil))))
    (pss_cons (ps_for PassesOwn.never rfl (pi_enumT (by rfl) menum (pa_cons (pe_ix ix_tup (pv 0) pe_int (fun _ _ => rfl)) pa_nil)) (pg_tup (n := 2) rfl (pgs_cons (pg_name (i := 2) scPW.nd rfl (Or.inl rfl)) (pgs_cons (pg_name (i := 3) scPW.nd rfl (Or.inl rfl)) pgs_nil)))
      (pss_one (ps_set (i := 1) scPW.nd rfl (Or.inl rfl) (pe_op op_cat (pe_op op_cat (pe_op op_cat (pv 1) (pe_ifExp (pt_cmpR op_gt (pv 2) pe_int (nomark _)) (pe_lst (pa_cons pe_str pa_nil)) (pe_lst pa_nil)))
          (pe_lst (pa_cons (pe_callTy call_str_int (by rfl) mstr (by decide +kernel) (pa_cons (pe_ix ix_tup (pv 3) pe_int (fun _ _ => rfl)) pa_nil)) (pa_cons (pe_ix ix_tup (pv 3) pe_int (fun _ _ => rfl)) pa_nil))))
        (pe_ifExp (pt_cmpR op_gt (pe_ix ix_tup (pv 3) pe_int (fun _ _ => rfl)) pe_int (nomark _)) (pe_lst (pa_cons pe_str (pa_cons (pe_callTy call_str_int (by rfl) mstr (by decide +kernel) (pa_cons (pe_ix ix_tup (pv 3) pe_int (fun _ _ => rfl)) pa_nil)) pa_nil))) (pe_lst pa_nil))))))
    (pss_one (ps_ret (pv 1)))))), ?_⟩
  have lo := ptW_lo hs
  have h1000 : (1000 : Nat) ≤ sizeLine := by decide
  cases p with
  | flat k w es =>
    obtain ⟨a, rfl, ha⟩ := hp
    obtain ⟨n1, n2, _, _, hl, _⟩ := hs
    refine ⟨.ref a, rfl, a, _, 0, .str k, rfl, rfl, SqT.of ha, at0 _ _, rfl, _, rfl, ?_⟩
    rw [decide_eq_false (fun e => n2 (V.str.inj e))]
    refine iteF ?_
    refine ⟨.ref a, rfl, a, _, 0, .str k, rfl, rfl, SqT.of ha, at0 _ _, rfl, _, rfl, ?_⟩
    rw [decide_eq_false (fun e => n1 (V.str.inj e))]
    refine iteT ?_
    refine ⟨.ref a, rfl, a, _, 1, .str w, rfl, rfl, SqT.of ha, at1 _ _ _, .ref a, rfl, a, _, 0, .str k, rfl, rfl, SqT.of ha, at0 _ _, (by show 2 ≤ sizeLine; decide), fun m hm => ?_⟩
    have s1 := same_upd hm (.lst [.str w, .str k])
    refine ⟨.ref a, rfl, 2, rfl, a, _, rfl, SqT.of (s1 _ _ ha), ?_, fun m2 hm2 => ?_⟩
    · rintro ⟨e, _⟩
      rw [show HT.sIx (V.str k :: V.str w :: es.map V.str).length 0 (some 2) = min 2 (V.str k :: V.str w :: es.map V.str).length from HT.sIx_nat _ 0 2, List.length_cons, List.length_cons] at e
      omega
    rw [cut_from2]
    have s2 := s1.trans (same_upd hm2 (.tup (es.map V.str)))
    refine ⟨m2, _, rfl, .inr (SqT.of upd_same), fun m3 hm3 => ?_⟩
    have s3 := s2.trans (same_upd hm3 (.lst (es.map V.str)))
    have n12 : m ≠ m2 := ne_of_none upd_same hm2
    have e1 : (upd (upd H m (.lst [.str w, .str k])) m2 (.tup (es.map V.str))) m = some (.lst [.str w, .str k]) := by rw [upd_ne n12]; exact upd_same
    have n13 : m ≠ m3 := ne_of_none e1 hm3
    refine ⟨m, m3, _, _, rfl, rfl, by rw [upd_ne n13]; exact e1, upd_same, ?_, fun l hl0 => ?_⟩
    · rw [List.length_map]
      show 2 + es.length ≤ _
      omega
    · exact q l _ (s3.trans (same_upd hl0 _)) (s3.free hl0) upd_same
  | mix w ts =>
    obtain ⟨a, b, us, rfl, ha, hb, hA⟩ := hp
    obtain ⟨_, hl, ht⟩ := hs
    refine ⟨.ref a, rfl, a, _, 0, .str "mix", rfl, rfl, SqT.of ha, rfl, rfl, _, rfl, ?_⟩
    rw [decide_eq_false (show ¬ V.str "mix" = V.str "use" by decide +kernel)]
    refine iteF ?_
    refine ⟨.ref a, rfl, a, _, 0, .str "mix", rfl, rfl, SqT.of ha, rfl, rfl, _, rfl, ?_⟩
    rw [decide_eq_true (rfl : V.str "mix" = V.str "mix")]
    refine iteF ?_
    refine ⟨.ref a, rfl, a, _, 1, .str w, rfl, rfl, SqT.of ha, rfl, (by show 2 ≤ sizeLine; decide), fun L hL => ?_⟩
    have s1 := same_upd hL (.lst [.str w, .str "mix"])
    refine ⟨.ref a, rfl, a, _, 2, .ref b, rfl, rfl, SqT.of (s1 _ _ ha), rfl, b, us, rfl, SqT.of (s1 _ _ hb), for_enumT (xs := us) (fun i σ H2 => ∃ L v2 v3, σ = [some (.ref a), some (.ref L), v2, v3] ∧ Same H H2 ∧ H L = none ∧ H2 L = some (.lst ((w :: ("mix" : Str) :: tmsW ts i).map V.str)))
      ⟨L, none, none, rfl, s1, hL, upd_same⟩ (fun i σ H2 ⟨_, _, _, _, s2, _⟩ => SqT.of (s2 _ _ hb)) ?_ ?_⟩
    · rintro i x T σ H2 hx ⟨L, v2, v3, rfl, s2, hL, hL2⟩ hT
      obtain ⟨t, htm, e, rfl, he⟩ := hA.get hx
      have hi : i < ts.length := (List.getElem?_eq_some_iff.mp htm).1
      have sm := ht t (List.mem_of_getElem? htm)
      have d0 := sm.d0
      have d1 := sm.d1
      have l1 := (tmsW_lo ht i).1
      have s3 : Same H (upd H2 T (.tup [.int (i : Nat), .ref e])) := s2.trans (same_upd hT _)
      have hL3 : (upd H2 T (.tup [.int (i : Nat), .ref e])) L = some (.lst ((w :: ("mix" : Str) :: tmsW ts i).map V.str)) := same_upd hT (.tup [.int (i : Nat), .ref e]) _ _ hL2
      refine ⟨T, [.int (i : Nat), .ref e], rfl, SqT.of upd_same, rfl, _, _, rfl, .ref e, [], rfl, rfl, ?_⟩
      generalize (upd H2 T (.tup [.int (i : Nat), .ref e])) = H3 at s3 hL3
      have base0 : ((w :: ("mix" : Str) :: tmsW ts i).map V.str).length ≤ 60 := by
        rw [List.length_map, List.length_cons, List.length_cons]
        omega
      refine ⟨.ref L, rfl, .int (i : Nat), rfl, _, _, rfl, rfl, _, rfl, ?_⟩
      refine ite2 (fun c => ?_) (fun c => ?_)
      · have c' : (0 : Int) < ((i : Nat) : Int) := of_decide_eq_true c
        refine ⟨(by show 1 ≤ sizeLine; decide), fun m hm => ?_⟩
        have s4 := s3.trans (same_upd hm (.lst (([("," : Str)] : List Str).map V.str)))
        have nLm : L ≠ m := ne_of_none hL3 hm
        refine ⟨L, m, _, _, rfl, rfl, by rw [upd_ne nLm]; exact hL3, upd_same, ?_, fun m2 hm2 => ?_⟩
        · show _ + 1 ≤ _
          omega
        have s5 := s4.trans (same_upd hm2 (.lst ((w :: ("mix" : Str) :: tmsW ts i).map V.str ++ ([("," : Str)] : List Str).map V.str)))
        have e5 : (upd (upd H3 m (.lst (([("," : Str)] : List Str).map V.str))) m2 (.lst ((w :: ("mix" : Str) :: tmsW ts i).map V.str ++ ([("," : Str)] : List Str).map V.str))) m2 = some (.lst ((w :: ("mix" : Str) :: tmsW ts i ++ ([("," : Str)] : List Str)).map V.str)) := by rw [upd_same, strs_app]
        refine ⟨.ref e, rfl, e, _, 0, _, rfl, rfl, SqT.of (s5 _ _ he), rfl, _, rfl, dec_log sm.n0 sm.n1, .ref e, rfl, e, _, 2, _, rfl, rfl, SqT.of (s5 _ _ he), rfl, (by show 2 ≤ sizeLine; decide), fun m3 hm3 => ?_⟩
        have nm3 : m2 ≠ m3 := ne_of_none e5 hm3
        have s6 := s5.trans (same_upd hm3 (.lst [.str (dec t.n), .str t.a]))
        refine ⟨m2, m3, _, _, rfl, rfl, by rw [upd_ne nm3]; exact e5, upd_same, ?_, fun m4 hm4 => ?_⟩
        · rw [List.length_map, List.length_append]
          rw [List.length_map] at base0
          show _ + 1 + 2 ≤ _
          omega
        have s7 := s6.trans (same_upd hm4 (.lst ((w :: ("mix" : Str) :: tmsW ts i ++ ([("," : Str)] : List Str)).map V.str ++ [.str (dec t.n), .str t.a])))
        have e7 := (congrArg (fun l => some (HO.lst l)) (strs_app (w :: ("mix" : Str) :: tmsW ts i ++ ([("," : Str)] : List Str)) [dec t.n, t.a]))
        refine ⟨.ref e, rfl, e, _, 1, _, rfl, rfl, SqT.of (s7 _ _ he), rfl, _, _, rfl, rfl, _, rfl, ?_⟩
        refine ite2 (fun g => ?_) (fun g => ?_)
        · have g' : (0 : Int) < t.d := of_decide_eq_true g
          refine ⟨.ref e, rfl, e, _, 1, _, rfl, rfl, SqT.of (s7 _ _ he), rfl, _, rfl, dec_log (by omega) (by omega), (by show 2 ≤ sizeLine; decide), fun m5 hm5 => ?_⟩
          have nm5 : m4 ≠ m5 := ne_of_none upd_same hm5
          refine ⟨m4, m5, ((w :: ("mix" : Str) :: tmsW ts i ++ ([("," : Str)] : List Str)) ++ [dec t.n, t.a]).map V.str, _, rfl, rfl, (by rw [upd_ne nm5, upd_same]; exact e7), upd_same, ?_, fun m6 hm6 => ?_⟩
          · rw [List.length_map, List.length_append, List.length_append]
            rw [List.length_map] at base0
            show _ + 1 + 2 + 2 ≤ _
            omega
          refine ⟨m6, _, _, rfl, (s7.trans (same_upd hm5 _)).trans (same_upd hm6 _), (s7.trans (same_upd hm5 _)).free hm6, ?_⟩
          rw [upd_same, tmsW_succ htm]
          unfold tmWords
          rw [if_neg (by simp; omega), if_neg (by omega)]
          have e8 := (congrArg (fun l => some (HO.lst l)) (strs_app ((w :: ("mix" : Str) :: tmsW ts i ++ ([("," : Str)] : List Str)) ++ [dec t.n, t.a]) [("late" : Str), dec t.d]))
          refine Eq.trans e8 ?_
          simp only [List.append_assoc, List.cons_append, List.nil_append]
        · have g' : ¬ (0 : Int) < t.d := of_decide_eq_false (Bool.eq_false_iff.mpr g)
          refine ⟨Nat.zero_le _, fun m5 hm5 => ?_⟩
          have nm5 : m4 ≠ m5 := ne_of_none upd_same hm5
          refine ⟨m4, m5, ((w :: ("mix" : Str) :: tmsW ts i ++ ([("," : Str)] : List Str)) ++ [dec t.n, t.a]).map V.str, _, rfl, rfl, (by rw [upd_ne nm5, upd_same]; exact e7), upd_same, ?_, fun m6 hm6 => ?_⟩
          · rw [List.length_map, List.length_append, List.length_append]
            rw [List.length_map] at base0
            show _ + 1 + 2 + 0 ≤ _
            omega
          refine ⟨m6, _, _, rfl, (s7.trans (same_upd hm5 _)).trans (same_upd hm6 _), (s7.trans (same_upd hm5 _)).free hm6, ?_⟩
          rw [upd_same, tmsW_succ htm]
          unfold tmWords
          rw [if_neg (by simp; omega), if_pos (by omega)]
          rw [List.append_nil]
          simp only [List.append_assoc, List.cons_append, List.nil_append, List.append_nil]
      · have c' : ¬ (0 : Int) < ((i : Nat) : Int) := of_decide_eq_false (Bool.eq_false_iff.mpr c)
        refine ⟨Nat.zero_le _, fun m hm => ?_⟩
        have s4 := s3.trans (same_upd hm (.lst (([] : List Str).map V.str)))
        have nLm : L ≠ m := ne_of_none hL3 hm
        refine ⟨L, m, _, _, rfl, rfl, by rw [upd_ne nLm]; exact hL3, upd_same, ?_, fun m2 hm2 => ?_⟩
        · show _ + 0 ≤ _
          omega
        have s5 := s4.trans (same_upd hm2 (.lst ((w :: ("mix" : Str) :: tmsW ts i).map V.str ++ ([] : List Str).map V.str)))
        have e5 : (upd (upd H3 m (.lst (([] : List Str).map V.str))) m2 (.lst ((w :: ("mix" : Str) :: tmsW ts i).map V.str ++ ([] : List Str).map V.str))) m2 = some (.lst ((w :: ("mix" : Str) :: tmsW ts i ++ ([] : List Str)).map V.str)) := by rw [upd_same, strs_app]
        refine ⟨.ref e, rfl, e, _, 0, _, rfl, rfl, SqT.of (s5 _ _ he), rfl, _, rfl, dec_log sm.n0 sm.n1, .ref e, rfl, e, _, 2, _, rfl, rfl, SqT.of (s5 _ _ he), rfl, (by show 2 ≤ sizeLine; decide), fun m3 hm3 => ?_⟩
        have nm3 : m2 ≠ m3 := ne_of_none e5 hm3
        have s6 := s5.trans (same_upd hm3 (.lst [.str (dec t.n), .str t.a]))
        refine ⟨m2, m3, _, _, rfl, rfl, by rw [upd_ne nm3]; exact e5, upd_same, ?_, fun m4 hm4 => ?_⟩
        · rw [List.length_map, List.length_append]
          rw [List.length_map] at base0
          show _ + 0 + 2 ≤ _
          omega
        have s7 := s6.trans (same_upd hm4 (.lst ((w :: ("mix" : Str) :: tmsW ts i ++ ([] : List Str)).map V.str ++ [.str (dec t.n), .str t.a])))
        have e7 := (congrArg (fun l => some (HO.lst l)) (strs_app (w :: ("mix" : Str) :: tmsW ts i ++ ([] : List Str)) [dec t.n, t.a]))
        refine ⟨.ref e, rfl, e, _, 1, _, rfl, rfl, SqT.of (s7 _ _ he), rfl, _, _, rfl, rfl, _, rfl, ?_⟩
        refine ite2 (fun g => ?_) (fun g => ?_)
        · have g' : (0 : Int) < t.d := of_decide_eq_true g
          refine ⟨.ref e, rfl, e, _, 1, _, rfl, rfl, SqT.of (s7 _ _ he), rfl, _, rfl, dec_log (by omega) (by omega), (by show 2 ≤ sizeLine; decide), fun m5 hm5 => ?_⟩
          have nm5 : m4 ≠ m5 := ne_of_none upd_same hm5
          refine ⟨m4, m5, ((w :: ("mix" : Str) :: tmsW ts i ++ ([] : List Str)) ++ [dec t.n, t.a]).map V.str, _, rfl, rfl, (by rw [upd_ne nm5, upd_same]; exact e7), upd_same, ?_, fun m6 hm6 => ?_⟩
          · rw [List.length_map, List.length_append, List.length_append]
            rw [List.length_map] at base0
            show _ + 0 + 2 + 2 ≤ _
            omega
          refine ⟨m6, _, _, rfl, (s7.trans (same_upd hm5 _)).trans (same_upd hm6 _), (s7.trans (same_upd hm5 _)).free hm6, ?_⟩
          rw [upd_same, tmsW_succ htm]
          unfold tmWords
          rw [if_pos (by simp; omega), if_neg (by omega)]
          have e8 := (congrArg (fun l => some (HO.lst l)) (strs_app ((w :: ("mix" : Str) :: tmsW ts i ++ ([] : List Str)) ++ [dec t.n, t.a]) [("late" : Str), dec t.d]))
          refine Eq.trans e8 ?_
          simp only [List.append_assoc, List.cons_append, List.nil_append]
        · have g' : ¬ (0 : Int) < t.d := of_decide_eq_false (Bool.eq_false_iff.mpr g)
          refine ⟨Nat.zero_le _, fun m5 hm5 => ?_⟩
          have nm5 : m4 ≠ m5 := ne_of_none upd_same hm5
          refine ⟨m4, m5, ((w :: ("mix" : Str) :: tmsW ts i ++ ([] : List Str)) ++ [dec t.n, t.a]).map V.str, _, rfl, rfl, (by rw [upd_ne nm5, upd_same]; exact e7), upd_same, ?_, fun m6 hm6 => ?_⟩
          · rw [List.length_map, List.length_append, List.length_append]
            rw [List.length_map] at base0
            show _ + 0 + 2 + 0 ≤ _
            omega
          refine ⟨m6, _, _, rfl, (s7.trans (same_upd hm5 _)).trans (same_upd hm6 _), (s7.trans (same_upd hm5 _)).free hm6, ?_⟩
          rw [upd_same, tmsW_succ htm]
          unfold tmWords
          rw [if_pos (by simp; omega), if_pos (by omega)]
          rw [List.append_nil]
          simp only [List.append_assoc, List.cons_append, List.nil_append, List.append_nil]
    · rintro σ H2 ⟨L, v2, v3, rfl, s2, hL, hL2⟩
      rw [hA.1] at hL2
      exact ⟨.ref L, rfl, q L H2 s2 hL hL2⟩
  | use w p es =>
    obtain ⟨a, b, rfl, ha, hb⟩ := hp
    obtain ⟨_, _, hl, _⟩ := hs
    refine ⟨.ref a, rfl, a, _, 0, .str "use", rfl, rfl, SqT.of ha, rfl, rfl, _, rfl, ?_⟩
    rw [decide_eq_true (rfl : V.str "use" = V.str "use")]
    refine iteT ?_
    refine ⟨.ref a, rfl, a, _, 1, .str w, rfl, rfl, SqT.of ha, rfl, .ref a, rfl, a, _, 2, .str p, rfl, rfl, SqT.of ha, rfl, (by show 3 ≤ sizeLine; decide), fun m hm => ?_⟩
    have s1 := same_upd hm (.lst [.str w, .str "use", .str p])
    refine ⟨.ref a, rfl, a, _, 3, .ref b, rfl, rfl, SqT.of (s1 _ _ ha), rfl, b, _, rfl, .inr (SqT.of (s1 _ _ hb)), fun m2 hm2 => ?_⟩
    have s2 := s1.trans (same_upd hm2 (.lst (es.map V.str)))
    have nm2 : m ≠ m2 := ne_of_none upd_same hm2
    refine ⟨m, m2, _, _, rfl, rfl, by rw [upd_ne nm2]; exact upd_same, upd_same, ?_, fun l hl0 => ?_⟩
    · rw [List.length_map]
      show 3 + es.length ≤ _
      omega
    · exact q l _ (s2.trans (same_upd hl0 _)) (s2.free hl0) upd_same
def spWords (K : PySem.W.Frag) : Sp := fun vs H Q _ => ∃ (a o : Addr) (us : List V) (ps : List Pt) (os : List Str), vs = [.ref a, .ref o] ∧ SqL K H a us ∧ All2 (PtAt H) us ps ∧ ps.length ≤ 20 ∧ (∀ p ∈ ps, SmP p) ∧
  SqL K H o (os.map V.str) ∧ Lo os 20 ∧ ∀ (l : Addr) (H' : Hp), Same H H' → H l = none → H' l = some (.lst ((netW ps os).map V.str)) → Q (.ref l) H'
theorem scWords : FnScope ["_law_parts_here", "_law_outs", "_law_found", "_law_part_here"] ["_law_parts_here", "_law_outs"] (defScope sWords) := ⟨rfl, rfl, rfl, by decide +kernel, rfl, by decide +kernel, by decide +kernel⟩
theorem ok_words {f g : Addr} {fd gd : FuncData} (F : Fun K "_law_words" "_law_words" sWords f fd) (G : Df P w K mg base 1 g gd "_law_part_words" ["_law_part_here"] spPartW) (mlist : mg "list" = none) : FnOk P w K mg base CX0 2 f fd ["_law_parts_here", "_law_outs"] (spWords K) := by
  refine F.ok scWords (fun vs H Q E h => ?_) (fun cdv A outer s H vs Q E hr h => ?_)
  · obtain ⟨a, o, us, ps, os, rfl, _⟩ := h
    rfl
  obtain ⟨a, o, us, ps, os, rfl, ha, hA, hl, hs, ho, lo, q⟩ := h
  refine ⟨_, pss_cons (ps_set (i := 2) scWords.nd rfl (Or.inl rfl) (pe_lst pa_nil))
    (pss_cons (ps_for PassesOwn.never rfl (pi_list (pv 0)) (pg_name (i := 3) scWords.nd rfl (Or.inl rfl))
      (pss_one (ps_set (i := 2) scWords.nd rfl (Or.inl rfl) (pe_op op_cat (pe_op op_cat (pv 2) (pe_call G.ok hr (by rfl) G.m G.kp G.b .nil pass0 (pa_cons (pv 3) pa_nil))) (pe_lst (pa_cons pe_str pa_nil))))))
    (pss_one (ps_ret (pe_op op_cat (pe_op op_cat (pv 2) (pe_lst (pa_cons pe_str pa_nil))) (pe_callTy call_list_of (by rfl) mlist (by decide +kernel) (pa_cons (pv 1) pa_nil)))))), ?_⟩
  have h10000 : (10000 : Nat) ≤ sizeLine := by decide
  refine ⟨Nat.zero_le _, fun L hL => ?_⟩
  have s1 : Same H (upd H L (.lst [])) := same_upd hL _
  refine ⟨.ref a, rfl, a, rfl, ⟨_, sameL s1 ha⟩, for_list (K := K) (a := a) (xs := us) (fun i σ H2 => ∃ L v3, σ = [some (.ref a), some (.ref o), some (.ref L), v3] ∧ Same H H2 ∧ H L = none ∧ H2 L = some (.lst ((psW ps i).map V.str)))
    ⟨L, none, rfl, s1, hL, upd_same⟩ (fun i σ H2 _ ⟨_, _, _, s2, _⟩ => sameL s2 ha) ?_ ?_⟩
  · rintro i x σ H2 hx ⟨L, v3, rfl, s2, hL, hL2⟩
    obtain ⟨p, hp, hxp⟩ := hA.get hx
    have hi : i < ps.length := (List.getElem?_eq_some_iff.mp hp).1
    have hsm := hs p (List.mem_of_getElem? hp)
    have l1 := (psW_lo hs i).1
    have l2 := (ptW_lo hsm).1
    refine ⟨.ref L, rfl, x, rfl, x, p, rfl, hxp.tups (Same.tups s2), hsm, fun l H3 s3 hl3 hlH => ?_⟩
    refine ⟨L, l, _, _, rfl, rfl, s3 _ _ hL2, hlH, ?_, fun m hm => ?_⟩
    · rw [List.length_map, List.length_map]
      omega
    have s4 := (s2.trans s3).trans (same_upd hm (.lst ((psW ps i).map V.str ++ (ptW p).map V.str)))
    refine ⟨(by show 1 ≤ sizeLine; decide), fun m2 hm2 => ?_⟩
    have n12 : m ≠ m2 := ne_of_none upd_same hm2
    refine ⟨m, m2, (psW ps i ++ ptW p).map V.str, _, rfl, rfl, (by rw [upd_ne n12, upd_same, strs_app]), upd_same, ?_, fun m3 hm3 => ?_⟩
    · rw [List.length_map, List.length_append]
      show _ + 1 ≤ _
      omega
    have s5 := s4.trans (same_upd hm2 (.lst [.str ";"]))
    refine ⟨m3, _, rfl, s5.trans (same_upd hm3 _), s5.free hm3, ?_⟩
    rw [upd_same, psW_succ hp]
    have e2 := congrArg (fun l => some (HO.lst l)) (strs_app (psW ps i ++ ptW p) [(";" : Str)])
    rw [List.append_assoc (psW ps i)] at e2
    exact e2
  · rintro σ H2 ⟨L, v3, rfl, s2, hL, hL2⟩
    rw [hA.1] at hL2
    have l1 := (psW_lo hs ps.length).1
    have l2 := lo.1
    refine ⟨.ref L, rfl, (by show 1 ≤ sizeLine; decide), fun m hm => ?_⟩
    have nLm : L ≠ m := ne_of_none hL2 hm
    have s3 := s2.trans (same_upd hm (.lst [.str ">"]))
    refine ⟨L, m, (psW ps ps.length).map V.str, _, rfl, rfl, by rw [upd_ne nLm]; exact hL2, upd_same, ?_, fun m2 hm2 => ?_⟩
    · rw [List.length_map]
      show _ + 1 ≤ _
      omega
    have e2 := strs_app (psW ps ps.length) [(">" : Str)]
    have s4 := s3.trans (same_upd hm2 (.lst ((psW ps ps.length).map V.str ++ [.str ">"])))
    refine ⟨.ref o, rfl, o, _, rfl, .inl (sameL s4 ho), fun m3 hm3 => ?_⟩
    have n23 : m2 ≠ m3 := ne_of_none upd_same hm3
    have s5 := s4.trans (same_upd hm3 (.lst (os.map V.str)))
    refine ⟨m2, m3, (psW ps ps.length ++ [(">" : Str)]).map V.str, _, rfl, rfl, (by rw [upd_ne n23, upd_same]; exact congrArg (fun l => some (HO.lst l)) e2), upd_same, ?_, fun l hl0 => ?_⟩
    · rw [List.length_map, List.length_map, List.length_append]
      show _ + 1 + _ ≤ _
      omega
    · refine q l _ (s5.trans (same_upd hl0 _)) (s5.free hl0) ?_
      rw [upd_same, strs_app]
      rfl

end
end Un
/-! ### a static method off its class; an operator that may raise -/
namespace StaX
open PySem PySem.Spec PyProof.Rows L2
/-- C.m is a staticmethod: its record at p, its def at g -/
structure SMet (K : PySem.W.Frag) (C : Addr) (mc : Value) (m : Str) (p g : Addr) : Prop where
  at_ : PySem.W.findCls K (.ref C) mc m = some (.get (.builtin "staticmethod.__get__") (.ref p) .none (.ref C))
  rc : ∃ rest, PySem.W.recIn K p "staticmethod" = some (.ref g :: rest)
  kp : PySem.W.keepIn K (.ref g) = true
section
variable {X : Cx} {pins : List (Addr × Obj)} {σ : L2.St} {H : Hp} {s : Shared} {C p g : Addr} {mc : Value} {m : Str} {A : Around} {E : Value → Shared → Prop}
theorem getmethsm_ok {pl : Sem Bool} {Q : Value × List Value → Shared → Prop} (I : Inv X pins σ H s) (r : ClX.CRead X.K C mc) (k : SMet X.K C mc m p g)
    (h : ∀ s', Inv X pins σ H s' → Q (.ref g, []) s') : wpAny (model X.prog X.w) A (getMethod (.ref C) m pl) Q E s := by
  obtain ⟨rest, hp⟩ := k.rc
  exact PySem.W.method_cls I.kIn r.ga (PySem.W.cls_bind I.kIn r.rd k.at_ (wpAny_call (PySem.W.sm_get (s := { s with toks := s.toks + 1 }) I.kIn hp (PySem.W.handed_on rfl (h _ (I.tok _))))))
end
def tSM (C : Addr) (sp : Sp) (dvs : List V) (E : XK) (ta : TE) (t : TA) : TE := fun σ H Q => ta σ H fun x H1 => x = .ref C ∧ t σ H1 fun vs H2 => sp (vs ++ dvs) H2 Q E
section
variable {X : Cx} {CX : CXT} {k : Nat} {C p g : Addr} {mc : Value} {fd : FuncData} {ps ks : List Str} {sp : Sp} {dvs : List V} {ds : List Value} {E : XK} {o e : Expr} {es : List Expr} {kws : List Keyword} {m : Str} {pos apos : Pos} {ta : TE} {t tk : TA} {pl : Sem Bool} {gg : List Value → List Value → List Value} {gV : List V → List V → List V}
theorem pe_smeth (he : PE X o ta) (r : ClX.CRead X.K C mc) (c : SMet X.K C mc m p g) (F : FnOk X.prog X.w X.K X.mg X.base CX k g fd ps sp) (hr : Room k X.A) (hb : Binds X.K fd ps ds) (hd : Vals dvs ds) (hx : Passes CX X E) (ha : PA X (e :: es) t)
    (hst : starEach (e :: es) X.env = (false, eval e X.env) :: starEach es X.env := by rfl) (hpl : (backTo pos (starEach es X.env)).any (·.1) = false := by rfl)
    (ht : eval (.Call (.Attribute o m apos) (e :: es) [] pos) X.env = (do
      let ov ← eval o X.env
      standAt apos.atName
      let (f, first) ← holding [ov] (getMethod ov m pl)
      callWith pos f first (backTo pos (starEach (e :: es) X.env)) (backToKw pos (keywordEach [] X.env))) := by rfl) :
    PE X (.Call (.Attribute o m apos) (e :: es) [] pos) (tSM C sp dvs E ta t) := by
  refine ⟨fun pins s σ H Q I h => ?_⟩
  refine PySem.W.methodCall_KW (pl := pl) (thn (he.run pins s σ H _ I h) fun u s1 ⟨x, H1, I1, rx, ex, q⟩ => ?_) ht
  subst ex
  obtain rfl : u = Value.ref C := rx
  refine getmethsm_ok I1 r c fun s2 I2 => ?_
  refine PySem.W.callWith_K (first := []) (h₀ := X.base) I.ok.mod.kin c.kp (thn (ha.run pos pins s2 σ H1 _ I2 q) fun us s3 ⟨vs, H2, I3, rv, q2⟩ => ⟨I3.kIn, ?_⟩) hst hpl
  exact run_fn (us := us) (vs := vs) F hr hb hd hx I3 rv q2
end
end StaX
namespace Un
open PySem L2 TL
section
variable {P : Program} {w : World} {K : PySem.W.Frag} {mg : Str → Option Value} {base : Heap}
open XV
abbrev sN_read : Stmt := inClass sNet 14
theorem scN_read : FnScope ["text", "pieces", "parts", "outs"] ["text", "pieces"] (defScope sN_read) := ⟨rfl, rfl, rfl, by decide +kernel, rfl, by decide +kernel, by decide +kernel⟩
def spReadB (K : PySem.W.Frag) (CT : Addr) : Sp := fun vs H Q E => ∃ v, vs = [v, .non] ∧ spNetB K CT [v] H Q E
theorem ok_readBad {f g CT : Addr} {fd gd : FuncData} {kws : List (Str × V)} (F : FunD K "read" "Net.read" (defArgs sN_read) (defBody sN_read) (defScope sN_read) [] kws f fd) (DN : DfX P w K mg base 7 g gd "read_net" ["text"] (spNetB K CT)) : FnOk P w K mg base (L2.CX P w) 8 f fd ["text", "pieces"] (spReadB K CT) := by
  refine F.ok scN_read (fun vs H Q E h => ?_) (fun cdv A outer s H vs Q E hr h => ?_)
  · obtain ⟨v, rfl, _⟩ := h
    rfl
  obtain ⟨v, rfl, h⟩ := h
  refine ⟨_, (pss_cons (ps_asg (pe_callS DN.ok (hr.mono (by decide)) (by rfl) DN.m DN.kp DN.b (fun σ => passAt (takes_of rfl rfl rfl rfl) σ) (pa_cons (pv 0) pa_nil)) (pg_tup (by rfl) (pgs_cons (pg_name (i := 2) scN_read.nd rfl (by first | exact Or.inl rfl | exact Or.inr rfl)) (pgs_cons (pg_name (i := 3) scN_read.nd rfl (by first | exact Or.inl rfl | exact Or.inr rfl)) pgs_nil)))) (pss_one ps_never)), ?_⟩
  refine ⟨_, rfl, ?_⟩
  rcases h with ⟨z, k, e, h⟩ | ⟨x, t, e, h⟩
  · exact .inl ⟨z, k, e, h⟩
  · exact .inr ⟨x, t, e, h⟩
end
end Un
namespace Un
open PySem L2 TL
section
variable {P : Program} {w : World} {K : PySem.W.Frag} {mg : Str → Option Value} {base : Heap}
open XV
theorem WC.sp {z : Str} (h : WC z) : 32 ∉ tl z := by
  cases h with
  | nm h => exact h.sp
  | dec n h0 h1 e => rw [e]; exact dec_sp h0 h1
  | lit h =>
    have all : ∀ y ∈ LITS, 32 ∉ tl y := by decide +kernel
    exact all z h
/-- the words of a text that was joined of words -/
def unW (W : List Str) : List Str := if W = [] then [""] else W
theorem unW_split {W : List Str} (h : ∀ z ∈ W, WC z) : Txt.split (Txt.join " " W) " " = unW W := by
  unfold unW
  by_cases e : W = []
  · rw [if_pos e, e]
    decide +kernel
  · rw [if_neg e]
    exact split_join (s := 32) (S := []) (by decide +kernel) (by decide +kernel) e fun z hz => (h z hz).sp
theorem unW_wc {W : List Str} (h : ∀ z ∈ W, WC z) : ∀ z ∈ unW W, WC z := fun z hz => by
  unfold unW at hz
  by_cases e : W = []
  · rw [if_pos e] at hz
    rw [List.mem_singleton.mp hz]
    exact .lit (by decide +kernel)
  · rw [if_neg e] at hz
    exact h z hz
theorem unW_len (W : List Str) : (unW W).length ≤ W.length + 1 := by
  unfold unW
  split
  · exact Nat.le_add_left _ _
  · exact Nat.le_succ _
theorem unW_join (W : List Str) : Txt.join " " (unW W) = Txt.join " " W := by
  unfold unW
  by_cases e : W = []
  · rw [if_pos e, e]
    decide +kernel
  · rw [if_neg e]
theorem unW_semi (W : List Str) : semis (unW W) ≤ semis W := by
  unfold unW
  by_cases e : W = []
  · rw [if_pos e, e]
    decide +kernel
  · rw [if_neg e]
    exact Nat.le_refl _
theorem semis_cons (z : Str) (W : List Str) : semis W ≤ semis (z :: W) := semis_sub (List.sublist_cons_self z W)
theorem semis_parts : ∀ ps : List Pt, ps.length ≤ semis (partsW ps)
  | [] => Nat.zero_le _
  | p :: r => by
    show r.length + 1 ≤ semis (ptW p ++ (";" : Str) :: partsW r)
    have h := semis_parts r
    have h2 : semis ((";" : Str) :: partsW r) = semis (partsW r) + 1 := by
      unfold semis
      rw [List.filter_cons_of_pos (by exact decide_eq_true rfl), List.length_cons]
    rw [semis_app, h2]
    omega
theorem wc_lo {W : List Str} (h : ∀ z ∈ W, WC z) : Lo W W.length := ⟨Nat.le_refl _, fun z hz => (h z hz).len⟩
theorem ok_readnetX {f C f0 f1 f2 f3 f4 f5 g : Addr} {fd d0 d1 d3 d4 d5 gd : FuncData} (F : Fun K "read_net" "read_net" sReadNet f fd) (M : MS P w K mg base C f1 f2 f3 f4 f5 d1 d3 d4 d5) (B : MT mg) (N : NameTxt mg) (MC : Mk K C f0) (mC : mg "Words" = some (.ref C))
    (GI : FnOk P w K mg base CX0 1 f0 d0 ["self", "text"] (spWInit C)) (bI : Binds K d0 ["self", "text"] []) (G : Df P w K mg base 6 g gd "read_part" ["words"] (spReadPart C)) (mtuple : mg "tuple" = none) :
    FnOk P w K mg base (L2.CX P w) 7 f fd ["text"] spReadNet := by
  refine F.okX scReadNet (fun vs H Q E h => ?_) (fun cdv A outer s H vs Q E hr h => ?_)
  · obtain ⟨ps, os, rfl, _⟩ := h
    rfl
  obtain ⟨ps, os, rfl, hl, hs, ho1, ho4, hos, q⟩ := h
  obtain ⟨to, mo⟩ := B.outs
  have hr1 : Room 1 _ := hr.mono (by decide)
  have hr2 : Room 2 _ := hr.mono (by decide)
  have hr3 : Room 3 _ := hr.mono (by decide)
  refine ⟨_, pss_cons (ps_if (pt_not (pt_val (pe_callB call_isi (by rfl) N.isi (by decide +kernel) (pa_cons (pv 0) (pa_cons (pe_bltn (v := .ty "str") (by rfl) N.str (by decide +kernel) rfl) pa_nil))))) (pss_one ps_never) pss_nil)
    (pss_cons (ps_set (i := 1) scReadNet.nd rfl (Or.inl rfl) (pe_make MC GI hr2 (by rfl) mC bI .nil pass0 (pa_cons (pv 0) pa_nil)))
    (pss_cons (ps_set (i := 2) scReadNet.nd rfl (Or.inl rfl) (pe_lst pa_nil))
    (C8.pss_cut (ps_while (passes_of rfl) (pt_cmpR op_ne (pe_meth0 (pv 1) M.T.cl M.ah.mt M.ah.ok hr1 M.ah.b .nil pass0) pe_str (nomark _))
      (pss_cons (ps_expr (pe_bm PySem.F.plainAttrs_list PySem.F.slot_list_append PySem.F.type_list_append mt_append (pv 2) (pa_cons (pe_call G.ok hr (by rfl) G.m G.kp G.b .nil pass0 (pa_cons (pv 1) pa_nil)) pa_nil)))
      (pss_one (ps_expr (pe_methR (pv 1) M.T.cl M.tkM M.tkF hr2 pass0 (pa_cons pe_str pa_nil))))))
    (pss_cons (ps_expr (pe_methR (pv 1) M.T.cl M.tkM M.tkF hr2 pass0 (pa_cons pe_str pa_nil)))
    (pss_cons (ps_set (i := 3) scReadNet.nd rfl (Or.inl rfl) (pe_meth0 (pv 1) M.T.cl M.nm.mt M.nm.ok hr2 M.nm.b .nil pass0))
    (pss_cons (ps_set (i := 4) scReadNet.nd rfl (Or.inl rfl) (pe_meth (pv 1) M.T.cl M.ns.mt M.ns.ok hr3 M.ns.b .nil pass0 (pa_cons (pe_op op_sub (pe_glob (v := .int 4) (by rfl) mo ⟨_, rfl⟩) pe_int) pa_nil)))
    (pss_cons (ps_if (pt_cmpR op_notN (pe_meth0 (pv 1) M.T.cl M.ah.mt M.ah.ok hr1 M.ah.b .nil pass0) pe_non (nomark _)) (pss_one ps_never) pss_nil)
    (pss_one (ps_ret (pe_tup (pa_cons (pe_callTy call_tuple_of (by rfl) mtuple (by decide +kernel) (pa_cons (pv 2) pa_nil)) (pa_cons (pe_tup (pa_cons (pv 3) (StX.pa_star (pv 4) pa_nil))) pa_nil)))))))))))), ?_⟩
  have hsplit := split_net (ps := ps) (os := os) (fun p hp => (hs p hp).2) hos
  have lo : Lo (netW ps os) 1300 := (((psW_lo (fun p hp => (hs p hp).1) ps.length).app (lo_of (l := [(">" : Str)]) 1 (Nat.le_refl _) (by decide +kernel))).app (lo_of (l := os) 4 ho4 (fun z hz => by have := (hos z hz).l4; omega))).le (by omega)
  refine ⟨_, rfl, _, _, _, _, true, rfl, .ty _, .base (.str _), kit_ty (by decide +kernel), _, rfl, iteF ?_⟩
  refine ⟨_, rfl, fun x dx nx ndx nex => ?_⟩
  have s0 : Same H (upd (upd H dx (.own x)) x (.ins C dx [])) := fun b o e => by
    rw [upd_ne (ne_of_none e nx), upd_ne (ne_of_none e ndx)]
    exact e
  refine ⟨x, dx, _, rfl, upd_same, ?_, ?_, fun L H1 hL0 w1 k1 => ⟨rfl, ?_⟩⟩
  · have := join_len lo
    omega
  · rw [hsplit, ← netW_eq]
    exact Nat.le_trans lo.1 (by decide)
  rw [hsplit] at w1
  have s1 : Same H H1 := Same.wd s0 nx k1
  refine ⟨Nat.zero_le _, fun D hD1 => ?_⟩
  have nDx : D ≠ x := by
    obtain ⟨_, _, h⟩ := w1.ins
    exact (ne_of_none h hD1).symm
  have nLD : L ≠ D := by
    obtain ⟨_, _, _, _, h, _⟩ := w1
    exact ne_of_none h hD1
  have hD : H D = none := s1.free hD1
  refine ⟨fun σ' H2 => ∃ us, σ' = [some (.str (Txt.join " " (netW ps os))), some (.ref x), some (.ref D), none, none] ∧ Same H H2 ∧ H2 D = some (.lst us) ∧ All2 (PtAt H2) us ps ∧ Wd C H2 x L ((">" : Str) :: os), ?_, ?_⟩
  · refine ⟨fun m σ' H2 => ∃ j us, j + m = ps.length ∧ σ' = [some (.str (Txt.join " " (netW ps os))), some (.ref x), some (.ref D), none, none] ∧ Same H H2 ∧ H2 D = some (.lst us) ∧ All2 (PtAt H2) us (ps.take j) ∧ Wd C H2 x L (partsW (ps.drop j) ++ (">" : Str) :: os),
      ⟨ps.length, 0, [], by omega, rfl, s1.trans (same_upd hD1 _), upd_same, .nil, w1.same (same_upd hD1 _)⟩, ?_⟩
    rintro m σ' H2 ⟨j, us, hj, rfl, s2, hD2, hA, w2⟩
    obtain ⟨dx2, i2, g2⟩ := w2.ins
    refine ⟨_, rfl, x, dx2, _, rfl, g2, lk_ahead _ _, x, L, _, rfl, w2, ?_⟩
    by_cases hjp : j < ps.length
    · have ed : ps.drop j = ps[j] :: ps.drop (j + 1) := List.drop_eq_getElem_cons hjp
      have okp := (hs ps[j] (List.getElem_mem hjp)).2
      obtain ⟨z, Rz, ez, nz⟩ := pt_head okp
      rw [ed] at w2
      rw [ed]
      have eh : headV (partsW (ps[j] :: ps.drop (j + 1)) ++ (">" : Str) :: os) = V.str z := by
        show headV ((ptW ps[j] ++ (";" : Str) :: partsW (ps.drop (j + 1))) ++ (">" : Str) :: os) = V.str z
        rw [ez]
        rfl
      rw [eh]
      refine ⟨rfl, _, rfl, ?_⟩
      rw [decide_eq_false (fun e => nz.gt (V.str.inj e))]
      have hul : us.length = j := by
        rw [hA.1, List.length_take]
        omega
      refine iteT ⟨fun σ' H4 => ∃ j' us, j' = j + 1 ∧ σ' = [some (.str (Txt.join " " (netW ps os))), some (.ref x), some (.ref D), none, none] ∧ Same H H4 ∧ H4 D = some (.lst us) ∧ All2 (PtAt H4) us (ps.take j') ∧ Wd C H4 x L (partsW (ps.drop j') ++ (">" : Str) :: os), fun σ' H4 ⟨j', us, e, h⟩ => ⟨ps.length - j', by omega, j', us, by omega, h⟩, ?_⟩
      replace w2 : Wd C H2 x L (ptW ps[j] ++ (";" : Str) :: (partsW (ps.drop (j + 1)) ++ (">" : Str) :: os)) := by
        have e : partsW (ps[j] :: ps.drop (j + 1)) ++ (">" : Str) :: os = ptW ps[j] ++ (";" : Str) :: (partsW (ps.drop (j + 1)) ++ (">" : Str) :: os) := by
          show (ptW ps[j] ++ (";" : Str) :: partsW (ps.drop (j + 1))) ++ (">" : Str) :: os = _
          rw [List.append_assoc]
          rfl
        rw [e] at w2
        exact w2
      refine ⟨_, rfl, .inl ⟨rfl, _, SqL.of hD2⟩, _, rfl, x, L, ps[j], _, rfl, okp, w2, fun v H3 hv w3 k3 => ?_⟩
      have hD3 := k3 _ _ hD2 nDx
      refine ⟨D, _, _, rfl, rfl, hD3, by rw [hul]; exact small1000 (by omega), ?_⟩
      have w3' : Wd C (upd H3 D (.lst (us ++ [v]))) x L ((";" : Str) :: (partsW (ps.drop (j + 1)) ++ (">" : Str) :: os)) := by
        obtain ⟨dx5, W5, i5, e1, e2, e3, e4, e5⟩ := w3
        exact ⟨dx5, W5, i5, by rw [upd_ne nDx.symm]; exact e1, by rw [upd_ne nLD]; exact e2, e3, e4, e5⟩
      obtain ⟨dx3, i3, g3⟩ := w3'.ins
      have s3 : Same H (upd H3 D (.lst (us ++ [v]))) := fun a o e => by
        rw [upd_ne (ne_of_none e hD)]
        exact Same.wd s2 nx k3 a o e
      refine ⟨_, rfl, x, dx3, _, rfl, g3, lk_take _ _, x, L, ";", [";"], _, rfl, by decide, List.mem_singleton.mpr rfl, w3', fun H4 w4 k4 => ?_⟩
      refine ⟨j + 1, us ++ [v], rfl, rfl, Same.wd s3 nx k4, k4 _ _ upd_same nDx, ?_, w4⟩
      have t4 := w3'.tups k4
      rw [List.take_add_one, List.getElem?_eq_getElem hjp]
      exact (hA.mono fun z q h => (PtAt.wr hD3 (h.tups (w2.tups k3))).tups t4).snoc ((PtAt.wr hD3 hv).tups t4)
    · have e0 : ps.drop j = [] := List.drop_eq_nil_iff.mpr (by omega)
      rw [e0] at w2
      rw [e0]
      refine ⟨rfl, _, rfl, ?_⟩
      rw [show decide (headV (partsW [] ++ (">" : Str) :: os) = V.str ">") = true from decide_eq_true rfl]
      refine iteF ⟨us, rfl, s2, hD2, ?_, w2⟩
      rw [List.take_of_length_le (by omega)] at hA
      exact hA
  · rintro σ' H2 ⟨us, rfl, s2, hD2, hA, w2⟩
    cases os with
    | nil => exact absurd ho1 (by decide)
    | cons o r =>
      have nr := fun z (hz : z ∈ r) => hos z (List.mem_cons_of_mem _ hz)
      have r3 : r.length ≤ 3 := by
        rw [List.length_cons] at ho4
        omega
      obtain ⟨dx2, i2, g2⟩ := w2.ins
      refine ⟨_, rfl, x, dx2, _, rfl, g2, lk_take _ _, x, L, ">", [">"], _, rfl, by decide, List.mem_singleton.mpr rfl, w2, fun H3 w3 k3 => ?_⟩
      obtain ⟨dx3, i3, g3⟩ := w3.ins
      refine ⟨_, rfl, x, dx3, _, rfl, g3, lk_take_name _ _, x, L, o, r, rfl, hos o (List.mem_cons_self ..), w3, fun H4 w4 k4 => ?_⟩
      obtain ⟨dx4, i4, g4⟩ := w4.ins
      replace w4 : Wd C H4 x L (r ++ []) := by
        rw [List.append_nil]
        exact w4
      refine ⟨_, rfl, x, dx4, _, rfl, g4, lk_take_names _ _, 4, 1, rfl, rfl, x, L, 3, r, [], rfl, nr, by omega, by omega, fun _ => trivial, w4, fun b H5 w5 k5 hb0 hb => ?_⟩
      obtain ⟨dx5, i5, g5⟩ := w5.ins
      refine ⟨_, rfl, x, dx5, _, rfl, g5, lk_ahead _ _, x, L, [], rfl, w5, rfl, _, rfl, ?_⟩
      rw [show decide (headV [] = V.non) = true from decide_eq_true rfl]
      refine iteF ?_
      have hD5 := k5 _ _ (k4 _ _ (k3 _ _ hD2 nDx) nDx) nDx
      have t5 : Tups H2 H5 := ((w2.tups k3).trans (w3.tups k4)).trans (w4.tups k5)
      have s5 : Same H H5 := Same.wd (Same.wd (Same.wd s2 nx k3) nx k4) nx k5
      refine ⟨_, rfl, D, _, rfl, .inl ⟨SqL.of hD5, fun t1 ht1 => ?_⟩⟩
      have s6 := same_upd ht1 (.tup us)
      refine ⟨_, rfl, _, rfl, b, _, rfl, .inl (SqT.of (s6 _ _ hb)), ?_, fun t2 ht2 => ⟨(by show 2 ≤ sizeLine; decide), fun y hy => ?_⟩⟩
      · show (r.map V.str ++ []).length + 1 ≤ _
        rw [List.append_nil, List.length_map]
        exact Nat.le_trans (show r.length + 1 ≤ 1000 by omega) (by decide)
      have s7 := same_upd ht2 (.tup (V.str o :: (r.map V.str ++ [])))
      have s8 := same_upd hy (.tup [.ref t1, .ref t2])
      refine q y t1 t2 us _ (((s5.trans s6).trans s7).trans s8) upd_same (s8 _ _ (s7 _ _ upd_same)) (hA.mono fun _ _ h => ((h.tups t5).tups (Same.tups s6)).tups (Same.tups (s7.trans s8))) ?_
      refine Eq.trans (s8 _ _ upd_same) ?_
      show some (HO.tup (V.str o :: (r.map V.str ++ []))) = some (HO.tup (V.str o :: r.map V.str))
      rw [List.append_nil]

/-- a def that keeps two promises -/
theorem fn_or {CX : CXT} {k : Nat} {f : Addr} {fd : FuncData} {ps : List Str} {s1 s2 : Sp} (F : FnOk P w K mg base CX k f fd ps s1) (G : FnOk P w K mg base CX k f fd ps s2) : FnOk P w K mg base CX k f fd ps (fun vs H Q E => s1 vs H Q E ∨ s2 vs H Q E) :=
  ⟨fun vs H Q E h => h.elim (F.len vs H Q E) (G.len vs H Q E), fun A outer s H args us vs Q E hr he hb hv hs => hs.elim (F.run A outer s H args us vs Q E hr he hb hv) (G.run A outer s H args us vs Q E hr he hb hv)⟩
def spNetR (K : PySem.W.Frag) (CT : Addr) : Sp := fun vs H Q E => spReadNet vs H Q E ∨ spNetB K CT vs H Q E
end
end Un
namespace Un
open PySem L2 TL
section
variable {P : Program} {w : World} {K : PySem.W.Frag} {mg : Str → Option Value} {base : Heap}
open XV
/-! ### the law: what it calls, the loop's turns -/
def EqL (H : Hp) (n : Nat) : List V → List V → Prop
  | [], [] => True
  | x :: xs, y :: ys => Eqv H n x y ∧ EqL H n xs ys
  | _, _ => False
theorem EqL.at_ {H : Hp} {n : Nat} : ∀ {xs ys : List V}, EqL H n xs ys → xs.length = ys.length ∧ ∀ (i : Nat) (u v : V), xs[i]? = some u → ys[i]? = some v → Eqv H n u v
  | [], [], _ => ⟨rfl, fun i u v h => by simp at h⟩
  | x :: xs, y :: ys, ⟨h, r⟩ => by
    obtain ⟨h1, h2⟩ := EqL.at_ r
    refine ⟨by rw [List.length_cons, List.length_cons, h1], fun i u v hu hv => ?_⟩
    cases i with
    | zero =>
      cases hu
      cases hv
      exact h
    | succ i => exact h2 i u v hu hv
  | [], _ :: _, h => h.elim
  | _ :: _, [], h => h.elim
theorem eqv_lst {H : Hp} {a b : Addr} {xs ys : List V} {n : Nat} (ha : H a = some (.lst xs)) (hb : H b = some (.lst ys)) (h : EqL H n xs ys) (hl : xs.length ≤ 100000) : Eqv H (n + 1) (.ref a) (.ref b) :=
  .inr ⟨a, b, xs, ys, rfl, rfl, h.at_.1, hl, .inl ⟨ha, hb⟩, h.at_.2⟩
theorem TabS_kp {H H' : Hp} {b c : Addr} {q : Addr} {s : Str} (B : Bag H b c) (k : Kp b H H') (t : LamX.TabS H q s) : LamX.TabS H' q s := by
  obtain ⟨ps, h1, h2, h3⟩ := t
  obtain ⟨xs, hb⟩ : ∃ xs, H b = some (.lst xs) := by
    obtain ⟨ns, p, r, s, k, B⟩ := B
    exact ⟨_, B.lb⟩
  refine ⟨ps, k _ _ h1 (ne_of h1 hb (by intro z; cases z)), h2, fun pos cv hc => ?_⟩
  obtain ⟨d, e1, e2⟩ := h3 pos cv hc
  exact ⟨d, e1, k _ _ e2 (ne_of e2 hb (by intro z; cases z))⟩
theorem Tabs_kp {T : List (Addr × Str)} {H H' : Hp} {b c : Addr} (B : Bag H b c) (k : Kp b H H') (t : LamX.Tabs T H) : LamX.Tabs T H' := fun p hp => TabS_kp B k (t p hp)
theorem Bag_ext {H H' : Hp} {b c : Addr} (B : Bag H b c) (e : LamX.ExtN H H') : Bag H' b c := by
  obtain ⟨ns, p, r, s, k, B⟩ := B
  exact ⟨ns, p, r, s, k, e _ _ B.lb (fun ps z => by cases z), e _ _ B.lc (fun ps z => by cases z), B.nl, B.p0, B.s0, B.s1, B.r0⟩
theorem eqv_told {H : Hp} {tf td t1 t1' : Addr} {code : Str} {due : List V} (n : Nat) (h1 : H tf = some (.tup [.str code, .ref t1'])) (h2 : H t1' = some (.tup due)) (h3 : H td = some (.tup [.str code, .ref t1])) (h4 : H t1 = some (.tup due)) (hl : due.length ≤ 2) (lf : ∀ z ∈ due, Leaf z) : Eqv H (n + 2) (.ref tf) (.ref td) := by
  refine .inr ⟨tf, td, [.str code, .ref t1'], [.str code, .ref t1], rfl, rfl, rfl, (by show 2 ≤ 100000; decide), .inr ⟨h1, h3⟩, fun i u v hu hv => ?_⟩
  match i, hu, hv with
  | 0, hu, hv =>
    cases hu
    cases hv
    exact Eqv.leaf (show Leaf (V.str code) from trivial) _
  | 1, hu, hv =>
    cases hu
    cases hv
    refine .inr ⟨t1', t1, due, due, rfl, rfl, rfl, by omega, .inr ⟨h2, h4⟩, fun i u v hu hv => ?_⟩
    rw [hu] at hv
    cases hv
    exact Eqv.leaf (lf u (List.mem_of_getElem? hu)) _
  | n + 2, hu, hv => cases hu
/-- an error class that `_law_why` tells -/
structure ErC (K : PySem.W.Frag) (cs : List Value) (C : Addr) : Prop where
  xf : XfC K C
  at_ : ∀ n ∈ attrsX, PySem.W.findIn K (.ref C) n = some none
  ex : PySem.W.exmAny K (.ref C) cs = some true
theorem perm_strs {ys : List V} {ws : List Str} (h : ys.Perm (ws.map V.str)) : ∃ zs : List Str, ys = zs.map V.str ∧ zs.Perm ws := by
  obtain ⟨zs, hz, ha⟩ := all2_perm (R := fun u z => u = V.str z) h (ps := ws) ⟨by rw [List.length_map], fun i x y hx hy => by
    rw [List.getElem?_map, hy] at hx
    cases hx
    rfl⟩
  refine ⟨zs, ?_, hz⟩
  apply List.ext_getElem?
  intro i
  rw [List.getElem?_map]
  cases e : zs[i]? with
  | none =>
    have h1 := List.getElem?_eq_none_iff.mp e
    rw [List.getElem?_eq_none (by rw [ha.1]; exact h1)]
    rfl
  | some z =>
    have hi := (List.getElem?_eq_some_iff.mp e).1
    have hy : ys[i]? = some (ys[i]'(by rw [ha.1]; exact hi)) := List.getElem?_eq_getElem _
    have hs : ys[i]? = some (V.str z) := by rw [hy, ha.2 i _ z hy e]
    rw [hs]
    rfl
abbrev sLaw : Stmt := top 82
abbrev lawN : List Str := ["_law_script", "_law_bag_here", "_law_turn", "_law_names_here", "_law_parts_here", "_law_words_here", "_law_text", "_law_wrong", "_law_found", "_law_late", "_law_odds", "_law_odd"]
theorem scLaw : FnScope lawN ["_law_script"] (defScope sLaw) := ⟨rfl, rfl, rfl, by decide +kernel, rfl, by decide +kernel, by decide +kernel⟩
abbrev lawX (P : Program) (w : World) (K : PySem.W.Frag) (mg : Str → Option Value) (base : Heap) (f : Addr) (cdv : Value) (A : Around) (outer : List Env) (s : Shared) (H0 : Hp) (E : XK) : Cx := (cxOf CX0 P w K mg base lawN "law" (defScope sLaw) f cdv A outer s H0 E).nox
def loopB : List Stmt := match (defBody sLaw)[1]? with
  | some (PySem.Stmt.For _ _ b _ _) => b
  | _ => []
def Dfx (P : Program) (w : World) (K : PySem.W.Frag) (mg : Str → Option Value) (base : Heap) (k : Nat) (x : Str) (ps : List Str) (sp : Sp) : Prop := ∃ g gd, Df P w K mg base k g gd x ps sp
structure LawD (P : Program) (w : World) (K : PySem.W.Frag) (mg : Str → Option Value) (base : Heap) (CN CT g ff U M' NL : Addr) (oc kV doc pm cdv ct : Value) (od an : Option Addr) (osl : Array (Option Value)) (fdF : FuncData) : Prop where
  len : mg "len" = none
  range : mg "range" = none
  tuple : mg "tuple" = none
  mN' : mg "Net" = some (.ref CN)
  GBg : Dfx P w K mg base 1 "_law_bag" ["_law_script"] (spBag K)
  GP : Dfx P w K mg base 1 "_law_pull" ["_law_bag_here", "_law_many"] spPull
  GA : Dfx P w K mg base 2 "_law_any" ["_law_bag_here", "_law_things"] (spAny K)
  GNm : Dfx P w K mg base 3 "_law_names" ["_law_bag_here", "_law_many"] spNames
  GMx : Dfx P w K mg base 2 "_law_mixed" ["_law_bag_here", "_law_things"] (spMixed K)
  GBx : Dfx P w K mg base 3 "_law_boxes" ["_law_bag_here", "_law_words_here"] spBoxes
  GPs : Dfx P w K mg base 5 "_law_parts" ["_law_bag_here", "_law_wires", "_law_sources", "_law_boxes_here"] spParts
  GW : Dfx P w K mg base 2 "_law_words" ["_law_parts_here", "_law_outs"] (spWords K)
  GBt : Dfx P w K mg base 3 "_law_bent" ["_law_bag_here", "_law_words_here", "_law_more"] spBt
  GWw : Dfx P w K mg base 4 "_law_wrong_word" ["_law_words_here"] spWw
  GQ : Dfx P w K mg base 6 "_law_same" ["_law_found", "_law_due"] (spSame 6)
  GT : Dfx P w K mg base 3 "text_of" ["parts", "outs"] (spTextT K)
  DN : ∃ gd dd, DfX P w K mg base 7 gd dd "read_net" ["text"] (spNetR K CT)
  read : ∃ mc pr gd fd ds, ClX.CRead K CN mc ∧ StaX.SMet K CN mc "read" pr gd ∧ Binds K fd ["text", "pieces"] ds ∧ Vals [.non] ds ∧ FnOk P w K mg base (L2.CX P w) 8 gd fd ["text", "pieces"] (spReadB K CT)
  erT : ErC K [.ref U, .ref M', .ref NL] CT
  lkW : K.lookup g = some ⟨oc, od, .func (PySem.W.fnOf "_law_why" "_law_why" (defArgs sWhy) (defBody sWhy) (defScope sWhy) .none kV doc pm an cdv ct), osl⟩
  hcW : PySem.W.codeIn K cdv "_law_why" = true
  bW : Binds K (PySem.W.fnOf "_law_why" "_law_why" (defArgs sWhy) (defBody sWhy) (defScope sWhy) .none kV doc pm an cdv ct) ["_law_ask"] []
  mW : mg "_law_why" = some (.ref g)
  kW : PySem.W.keepIn K (.ref g) = true
  GFd : ExR.FnE P w K mg base CX0 1 ff fdF ["_law_e"] (spFieldE K)
  bF : Binds K fdF ["_law_e"] []
  kF : PySem.W.keepIn K (.ref ff) = true
  mF : mg "_law_field" = some (.ref ff)
  mU : mg "UnopenedError" = some (.ref U)
  mM : mg "Missing" = some (.ref M')
  mN : mg "NothingLeft" = some (.ref NL)
/-- from statement n of the loop's body on: from Pre the turn ends in Inv -/
def SegP (X : Cx) (n : Nat) (Pre Inv : L2.St → Hp → Prop) : Prop := ∃ t, PSs X (loopB.drop n) t ∧ ∀ (D : Ends) (σ : L2.St) (H : Hp), Pre σ H → (∀ σ' H', Inv σ' H' → D.nx σ' H' ∧ D.ct σ' H') → t D σ H
abbrev TL' := List (Addr × Str)
def LInv (T : TL') (scr : Addr) (σ : L2.St) (H : Hp) : Prop := ∃ b c : Addr, Bag H b c ∧ LamX.Tabs T H ∧ ∃ v2 v3 v4 v5 v6 v7 v8 v9 v10 v11 : Option V, σ = [some (.ref scr), some (.ref b), v2, v3, v4, v5, v6, v7, v8, v9, v10, v11]
/-- the names -/
structure KN (T : TL') (H : Hp) (b c nl : Addr) (ws : List Str) : Prop where
  bag : Bag H b c
  tabs : LamX.Tabs T H
  nm : NmL H b nl ws
  w7 : ws.length = 7
theorem KN.kp {T : TL'} {H H' : Hp} {b c nl : Addr} {ws : List Str} (k : KN T H b c nl ws) (B : Bag H' b c) (q : Kp b H H') : KN T H' b c nl ws := ⟨B, Tabs_kp k.bag q k.tabs, k.nm.kp q, k.w7⟩
theorem KN.same {T : TL'} {H H' : Hp} {b c nl : Addr} {ws : List Str} (k : KN T H b c nl ws) (q : Same H H') : KN T H' b c nl ws := k.kp (k.bag.same q) (Same.kp q)
/-- the parts -/
structure KP (H : Hp) (b pl : Addr) (us : List V) (ps : List Pt) (n : Nat) : Prop where
  ne : pl ≠ b
  at_ : H pl = some (.lst us)
  all : All2 (PtAt H) us ps
  ok : ∀ p ∈ ps, SmP p ∧ OkP p
  l : ps.length ≤ n
theorem KP.kp {H H' : Hp} {b c pl : Addr} {us : List V} {ps : List Pt} {n : Nat} (k : KP H b pl us ps n) (B : Bag H b c) (q : Kp b H H') : KP H' b pl us ps n := ⟨k.ne, q _ _ k.at_ k.ne, k.all.mono fun _ _ z => z.tups (q.tups B), k.ok, k.l⟩
theorem KP.same {H H' : Hp} {b pl : Addr} {us : List V} {ps : List Pt} {n : Nat} (k : KP H b pl us ps n) (q : Same H H') : KP H' b pl us ps n := ⟨k.ne, q _ _ k.at_, k.all.mono fun _ _ z => z.tups (Same.tups q), k.ok, k.l⟩
theorem KP.mono {H : Hp} {b pl : Addr} {us : List V} {ps : List Pt} {n m : Nat} (k : KP H b pl us ps n) (h : n ≤ m) : KP H b pl us ps m := ⟨k.ne, k.at_, k.all, k.ok, Nat.le_trans k.l h⟩
def Pre1 (n : Nat) (T : TL') (scr : Addr) (σ : L2.St) (H : Hp) : Prop := ∃ (b c nl pl : Addr) (ws : List Str) (us : List V) (ps : List Pt), KN T H b c nl ws ∧ KP H b pl us ps n ∧ ∃ v2 v5 v6 v7 v8 v9 v10 v11 : Option V, σ = [some (.ref scr), some (.ref b), v2, some (.ref nl), some (.ref pl), v5, v6, v7, v8, v9, v10, v11]
section
variable {CN CT g ff U M' NL f scr c0 P0 : Addr} {oc kV doc pm cdw ct : Value} {od an : Option Addr} {osl : Array (Option Value)} {fdF : FuncData} {T : TL'} {A : Around} {outer : List Env} {s : Shared} {H0 : Hp} {E : XK}
theorem segA (L : LawD P w K mg base CN CT g ff U M' NL oc kV doc pm cdw ct od an osl fdF) (TB : LamX.TabB base mg c0 P0) (hT : T = [(P0, (lawX P w K mg base f (.ref c0) A outer s H0 E).env.qual ++ "<lambda>")]) (hr : Room 10 (lawX P w K mg base f (.ref c0) A outer s H0 E).A) (next : SegP (lawX P w K mg base f (.ref c0) A outer s H0 E) 2 (Pre1 6 T scr) (LInv T scr)) : SegP (lawX P w K mg base f (.ref c0) A outer s H0 E) 0 (LInv T scr) (LInv T scr) := by
  obtain ⟨t, ht, hq⟩ := next
  have mlen := L.len
  have mrange := L.range
  have mtuple := L.tuple
  obtain ⟨_, _, GP⟩ := L.GP
  obtain ⟨_, _, GNm⟩ := L.GNm
  obtain ⟨_, _, GMx⟩ := L.GMx
  obtain ⟨_, _, GBx⟩ := L.GBx
  obtain ⟨_, _, GPs⟩ := L.GPs
  refine ⟨_, (pss_cons (ps_set (i := 3) scLaw.nd rfl (by first | exact Or.inl rfl | exact Or.inr rfl) (pe_call GMx.ok (hr.mono (by decide)) (by rfl) GMx.m GMx.kp GMx.b .nil pass0 (pa_cons (pv 1) (pa_cons (pe_call GNm.ok (hr.mono (by decide)) (by rfl) GNm.m GNm.kp GNm.b .nil pass0 (pa_cons (pv 1) (pa_cons pe_int pa_nil))) pa_nil))))
 (pss_cons (ps_set (i := 4) scLaw.nd rfl (by first | exact Or.inl rfl | exact Or.inr rfl) (pe_call GPs.ok (hr.mono (by decide)) (by rfl) GPs.m GPs.kp GPs.b .nil pass0 (pa_cons (pv 1) (pa_cons (pe_slice sl_list (pv 3) po_none (po_some (pe_op op_add pe_int (pe_call GP.ok (hr.mono (by decide)) (by rfl) GP.m GP.kp GP.b .nil pass0 (pa_cons (pv 1) (pa_cons pe_int pa_nil)))))) (pa_cons (pe_call GP.ok (hr.mono (by decide)) (by rfl) GP.m GP.kp GP.b .nil pass0 (pa_cons (pv 1) (pa_cons pe_int pa_nil))) (pa_cons (pe_call GBx.ok (hr.mono (by decide)) (by rfl) GBx.m GBx.kp GBx.b .nil pass0 (pa_cons (pv 1) (pa_cons (pe_slice sl_list (pv 3) po_none (po_some pe_int)) pa_nil))) pa_nil))))))
 ht)), fun D σ H pre post => ?_⟩
  obtain ⟨b, c, B2, tb, v2, v3, v4, v5, v6, v7, v8, v9, v10, v11, rfl⟩ := pre
  refine ⟨.ref b, rfl, .ref b, rfl, b, c, 7, rfl, B2, by decide, by decide, fun L0 ws H3 hwl hwn B3 k3 hL hL3 => ?_⟩
  have nL : L0 ≠ b := B2.fresh hL
  have tb := Tabs_kp B2 k3 tb
  refine ⟨b, c, L0, ws.map V.str, rfl, B3, nL, SqL.of hL3, by rw [List.length_map]; omega, fun M ys H4 hperm B4 k4 hM nM hM4 => ?_⟩
  obtain ⟨zs, rfl, hzp⟩ := perm_strs hperm
  have zl : zs.length = 7 := by have := hzp.length_eq; omega
  have zn : ∀ z ∈ zs, IsNm z := fun z hz => hwn z (hzp.mem_iff.mp hz)
  have tb := Tabs_kp B3 k4 tb
  have k : KN T H4 b c M zs := ⟨B4, tb, ⟨nM, hM4, zn, by omega⟩, zl⟩
  clear hL hL3 nL k3 k4 B3 hperm tb
  refine ⟨.ref b, rfl, .ref M, rfl, .ref b, rfl, b, c, 6, rfl, k.bag, by decide, by decide, fun d H5 d0 d1 B5 k5 => ?_⟩
  have k := k.kp B5 k5
  refine ⟨1, d, rfl, rfl, _, rfl, M, _, rfl, SqL.of k.nm.at_, fun m hm => ?_⟩
  obtain ⟨d', hd', e'⟩ : ∃ d' : Nat, d' ≤ 6 ∧ (1 + d : Int) = (d' : Int) := ⟨(1 + d).toNat, by omega, by omega⟩
  rw [e', cutT]
  have s6 := same_upd hm (.lst ((zs.take d').map V.str))
  have hm6 : upd H5 m (.lst ((zs.take d').map V.str)) m = some (.lst ((zs.take d').map V.str)) := upd_same
  have k := k.same s6
  generalize upd H5 m (.lst ((zs.take d').map V.str)) = H6 at s6 hm6 k ⊢
  have nm6 : m ≠ b := strs_nb hm6 k.bag
  refine ⟨.ref b, rfl, b, c, 2, rfl, k.bag, by decide, by decide, fun d2 H7 e0 e1 B7 k7 => ?_⟩
  have hm6 := k7 _ _ hm6 nm6
  have k := k.kp B7 k7
  refine ⟨.ref b, rfl, .ref M, rfl, 2, rfl, M, _, rfl, SqL.of k.nm.at_, fun m2 hm2 => ?_⟩
  rw [show cutV (zs.map V.str) none (some 2) = (zs.take 2).map V.str from cutT (a := 2)]
  have s8 := same_upd hm2 (.lst ((zs.take 2).map V.str))
  have h2 : upd H7 m2 (.lst ((zs.take 2).map V.str)) m2 = some (.lst ((zs.take 2).map V.str)) := upd_same
  have k := k.same s8
  have hm6 := s8 _ _ hm6
  generalize upd H7 m2 (.lst ((zs.take 2).map V.str)) = H8 at s8 h2 k hm6 ⊢
  have sub2 : ∀ {n : Nat}, ∀ z ∈ zs.take n, IsNm z := fun z hz => k.nm.nm z (List.mem_of_mem_take hz)
  have l2 : ∀ {n : Nat}, (zs.take n).length ≤ 7 := fun {n} => by rw [List.length_take, zl]; omega
  refine ⟨b, c, m2, zs.take 2, rfl, k.bag, ⟨strs_nb h2 k.bag, h2, sub2, by have := l2 (n := 2); omega⟩, fun x bs fs H9 bxl hfs B9 k9 hx9 => ?_⟩
  have hm6 := k9 _ _ hm6 nm6
  have k := k.kp B9 k9
  refine ⟨b, c, m, x, d2, zs.take d', bs, fs, rfl, k.bag, ⟨nm6, hm6, fun z hz => zn z (List.mem_of_mem_take hz), by have := l2 (n := d'); omega⟩, by omega, by omega, bxl, fun l us ps HA nl hl hA hok hlen BA kA => ?_⟩
  have k := k.kp BA kA
  exact hq D _ _ ⟨b, c, M, l, zs, us, ps, k, ⟨nl, hl, hA, fun p hp => (hok p hp).1, by rw [hlen, List.length_take]; omega⟩, _, _, _, _, _, _, _, _, rfl⟩ post
end
end
end Un
namespace Un
open PySem L2 TL
section
variable {P : Program} {w : World} {K : PySem.W.Frag} {mg : Str → Option Value} {base : Heap}
open XV
theorem strs_nb0 {H : Hp} {b c l x : Addr} {us : List V} (h : H l = some (.lst (us ++ [V.ref x]))) (B : Bag H b c) : l ≠ b := fun e => by
  obtain ⟨x1, x2, x3, x4, hb⟩ := bag_at B
  rw [e, hb] at h
  injection h with h
  injection h with h
  have := congrArg List.getLast? h
  rw [List.getLast?_append] at this
  cases this
section
variable {CN CT g ff U M' NL f scr c0 P0 : Addr} {oc kV doc pm cdw ct : Value} {od an : Option Addr} {osl : Array (Option Value)} {fdF : FuncData} {T : TL'} {A : Around} {outer : List Env} {s : Shared} {H0 : Hp} {E : XK}
theorem segB (L : LawD P w K mg base CN CT g ff U M' NL oc kV doc pm cdw ct od an osl fdF) (TB : LamX.TabB base mg c0 P0) (hT : T = [(P0, (lawX P w K mg base f (.ref c0) A outer s H0 E).env.qual ++ "<lambda>")]) (hr : Room 10 (lawX P w K mg base f (.ref c0) A outer s H0 E).A) (next : SegP (lawX P w K mg base f (.ref c0) A outer s H0 E) 3 (Pre1 7 T scr) (LInv T scr)) : SegP (lawX P w K mg base f (.ref c0) A outer s H0 E) 2 (Pre1 6 T scr) (LInv T scr) := by
  obtain ⟨t, ht, hq⟩ := next
  have mlen := L.len
  have mrange := L.range
  have mtuple := L.tuple
  obtain ⟨_, _, GP⟩ := L.GP
  refine ⟨_, (pss_cons (ps_if (pt_cmpR op_eq (pe_call GP.ok (hr.mono (by decide)) (by rfl) GP.m GP.kp GP.b .nil pass0 (pa_cons (pv 1) (pa_cons pe_int pa_nil))) pe_int (nomark _))
 (pss_one (ps_set (i := 4) scLaw.nd rfl (by first | exact Or.inl rfl | exact Or.inr rfl) (pe_op op_cat (pv 4) (pe_lst (pa_cons (pe_tup (pa_cons pe_str (pa_cons (pe_ix ix_list (pv 3) pe_int (fun _ _ => rfl)) (pa_cons (pe_ix ix_list (pv 3) pe_int (fun _ _ => rfl)) (pa_cons (pe_callTy call_tuple_of (by rfl) mtuple (by decide +kernel) (pa_cons (pe_slice sl_list (pv 3) po_none (po_some (pe_call GP.ok (hr.mono (by decide)) (by rfl) GP.m GP.kp GP.b .nil pass0 (pa_cons (pv 1) (pa_cons pe_int pa_nil))))) pa_nil)) pa_nil))))) pa_nil)))))
 pss_nil)
 ht), fun D σ H pre post => ?_⟩
  obtain ⟨b, c, nl, pl, ws, us, ps, k, q, v2, v5, v6, v7, v8, v9, v10, v11, rfl⟩ := pre
  refine ⟨.ref b, rfl, b, c, 3, rfl, k.bag, by decide, by decide, fun d H1 d0 d1 B1 k1 => ⟨rfl, _, rfl, ?_⟩⟩
  have q := q.kp k.bag k1
  have k := k.kp B1 k1
  have ql := q.l
  have ul : us.length = ps.length := q.all.1
  by_cases hd : V.int d = V.int 0
  rotate_left
  · rw [decide_eq_false hd]
    exact iteF (hq D _ _ ⟨b, c, nl, pl, ws, us, ps, k, q.mono (by decide), _, _, _, _, _, _, _, _, rfl⟩ post)
  rw [decide_eq_true hd]
  obtain ⟨n6, e6⟩ : ∃ z, ws[6]? = some z := ⟨_, List.getElem?_eq_getElem (by rw [k.w7]; decide)⟩
  obtain ⟨n0, e0⟩ : ∃ z, ws[0]? = some z := ⟨_, List.getElem?_eq_getElem (by rw [k.w7]; decide)⟩
  have i6 := k.nm.nm _ (List.mem_of_getElem? e6)
  have i0 := k.nm.nm _ (List.mem_of_getElem? e0)
  have a6 : atI (ws.map V.str) 6 = some (.str n6) := atI_nat (j := 6) (by rw [List.getElem?_map, e6]; rfl)
  have a0 : atI (ws.map V.str) 0 = some (.str n0) := atI_nat (j := 0) (by rw [List.getElem?_map, e0]; rfl)
  refine iteT ⟨_, rfl, _, rfl, nl, _, 6, _, rfl, rfl, SqL.of k.nm.at_, a6, _, rfl, nl, _, 0, _, rfl, rfl, SqL.of k.nm.at_, a0, .ref nl, rfl, .ref b, rfl, b, c, 5, rfl, k.bag, by decide, by decide, fun d2 H2 d20 d21 B2 k2 => ?_⟩
  have q := q.kp k.bag k2
  have k := k.kp B2 k2
  obtain ⟨e, rfl⟩ : ∃ e : Nat, d2 = (e : Int) := ⟨d2.toNat, by omega⟩
  refine ⟨_, rfl, nl, _, rfl, SqL.of k.nm.at_, fun m hm => ?_⟩
  rw [cutT]
  have el : (ws.take e).length ≤ 4 := by rw [List.length_take]; omega
  have s3 := same_upd hm (.lst ((ws.take e).map V.str))
  have g3 : upd H2 m (.lst ((ws.take e).map V.str)) m = some (.lst ((ws.take e).map V.str)) := upd_same
  have k := k.same s3
  have q := q.same s3
  generalize upd H2 m (.lst ((ws.take e).map V.str)) = H3 at s3 g3 k q ⊢
  refine ⟨m, _, rfl, .inl ⟨SqL.of g3, fun t4 ht4 => ?_⟩⟩
  have s4 := same_upd ht4 (.tup ((ws.take e).map V.str))
  have hb : upd H3 t4 (.tup ((ws.take e).map V.str)) t4 = some (.tup ((ws.take e).map V.str)) := upd_same
  have k := k.same s4
  have q := q.same s4
  generalize upd H3 t4 (.tup ((ws.take e).map V.str)) = J3 at s4 hb k q ⊢
  refine ⟨(by show 4 ≤ sizeLine; decide), fun x hx => ?_⟩
  have s44 := same_upd hx (.tup [V.str "use", V.str n6, V.str n0, V.ref t4])
  have hp : upd J3 x (.tup [V.str "use", V.str n6, V.str n0, V.ref t4]) x = some (.tup [V.str "use", V.str n6, V.str n0, V.ref t4]) := upd_same
  have k := k.same s44
  have q := q.same s44
  have hb := s44 _ _ hb
  generalize upd J3 x (.tup [V.str "use", V.str n6, V.str n0, V.ref t4]) = J4 at s44 hp k q hb ⊢
  refine ⟨(by show 1 ≤ sizeLine; decide), fun y hy => ?_⟩
  have s5 := same_upd hy (.lst [V.ref x])
  have g5 : upd J4 y (.lst [V.ref x]) y = some (.lst [V.ref x]) := upd_same
  have k := k.same s5
  have q := q.same s5
  have hp := s5 _ _ hp
  have hb := s5 _ _ hb
  generalize upd J4 y (.lst [V.ref x]) = J5 at s5 g5 k q hp hb ⊢
  refine ⟨pl, y, _, _, rfl, rfl, q.at_, g5, Nat.le_of_lt (small1000 (by rw [List.length_singleton]; omega)), fun l hl => ?_⟩
  have s6 := same_upd hl (.lst (us ++ [V.ref x]))
  have g6 : upd J5 l (.lst (us ++ [V.ref x])) l = some (.lst (us ++ [V.ref x])) := upd_same
  have k := k.same s6
  have q := q.same s6
  have hp := s6 _ _ hp
  have hb := s6 _ _ hb
  generalize upd J5 l (.lst (us ++ [V.ref x])) = J6 at s6 g6 k q hp hb ⊢
  have en : ∀ z ∈ ws.take e, IsNm z := fun z hz => k.nm.nm z (List.mem_of_mem_take hz)
  refine hq D _ _ ⟨b, c, nl, l, ws, us ++ [V.ref x], ps ++ [.use n6 n0 (ws.take e)], k, ⟨strs_nb0 g6 k.bag, g6, q.all.snoc (show PtAt J6 (.ref x) (.use n6 n0 (ws.take e)) from ⟨x, t4, rfl, hp, hb⟩), fun p hp => ?_, by rw [List.length_append, List.length_singleton]; omega⟩, _, _, _, _, _, _, _, _, rfl⟩ post
  rcases List.mem_append.mp hp with hp | hp
  · exact q.ok p hp
  · rw [List.mem_singleton.mp hp]
    exact ⟨⟨by have := i6.l4; omega, by have := i0.l4; omega, by omega, fun z hz => by have := (en z hz).l4; omega⟩, i6, i0, el, en⟩
theorem segC (L : LawD P w K mg base CN CT g ff U M' NL oc kV doc pm cdw ct od an osl fdF) (TB : LamX.TabB base mg c0 P0) (hT : T = [(P0, (lawX P w K mg base f (.ref c0) A outer s H0 E).env.qual ++ "<lambda>")]) (hr : Room 10 (lawX P w K mg base f (.ref c0) A outer s H0 E).A) (next : SegP (lawX P w K mg base f (.ref c0) A outer s H0 E) 4 (Pre1 8 T scr) (LInv T scr)) : SegP (lawX P w K mg base f (.ref c0) A outer s H0 E) 3 (Pre1 7 T scr) (LInv T scr) := by
  obtain ⟨t, ht, hq⟩ := next
  have mlen := L.len
  have mrange := L.range
  have mtuple := L.tuple
  obtain ⟨_, _, GP⟩ := L.GP
  refine ⟨_, (pss_cons (ps_if (pt_cmpR op_eq (pe_call GP.ok (hr.mono (by decide)) (by rfl) GP.m GP.kp GP.b .nil pass0 (pa_cons (pv 1) (pa_cons pe_int pa_nil))) pe_int (nomark _))
 (pss_one (ps_set (i := 4) scLaw.nd rfl (by first | exact Or.inl rfl | exact Or.inr rfl) (pe_op op_cat (pv 4) (pe_lst (pa_cons (pe_tup (pa_cons pe_str (pa_cons (pe_ix ix_list (pv 3) pe_int (fun _ _ => rfl)) (pa_cons (pe_op op_repT (pe_tup (pa_cons (pe_tup (pa_cons pe_int (pa_cons pe_int (pa_cons (pe_ix ix_list (pv 3) pe_int (fun _ _ => rfl)) pa_nil)))) pa_nil)) pe_int) pa_nil)))) pa_nil)))))
 pss_nil)
 ht), fun D σ H pre post => ?_⟩
  obtain ⟨b, c, nl, pl, ws, us, ps, k, q, v2, v5, v6, v7, v8, v9, v10, v11, rfl⟩ := pre
  refine ⟨.ref b, rfl, b, c, 4, rfl, k.bag, by decide, by decide, fun d H1 d0 d1 B1 k1 => ⟨rfl, _, rfl, ?_⟩⟩
  have q := q.kp k.bag k1
  have k := k.kp B1 k1
  have ql := q.l
  have ul : us.length = ps.length := q.all.1
  by_cases hd : V.int d = V.int 0
  rotate_left
  · rw [decide_eq_false hd]
    exact iteF (hq D _ _ ⟨b, c, nl, pl, ws, us, ps, k, q.mono (by decide), _, _, _, _, _, _, _, _, rfl⟩ post)
  rw [decide_eq_true hd]
  obtain ⟨n6, e6⟩ : ∃ z, ws[6]? = some z := ⟨_, List.getElem?_eq_getElem (by rw [k.w7]; decide)⟩
  obtain ⟨n0, e0⟩ : ∃ z, ws[0]? = some z := ⟨_, List.getElem?_eq_getElem (by rw [k.w7]; decide)⟩
  have i6 := k.nm.nm _ (List.mem_of_getElem? e6)
  have i0 := k.nm.nm _ (List.mem_of_getElem? e0)
  have a6 : atI (ws.map V.str) 6 = some (.str n6) := atI_nat (j := 6) (by rw [List.getElem?_map, e6]; rfl)
  have a0 : atI (ws.map V.str) 0 = some (.str n0) := atI_nat (j := 0) (by rw [List.getElem?_map, e0]; rfl)
  refine iteT ⟨_, rfl, _, rfl, nl, _, 6, _, rfl, rfl, SqL.of k.nm.at_, a6, _, rfl, nl, _, 0, _, rfl, rfl, SqL.of k.nm.at_, a0, (by show 3 ≤ sizeLine; decide), fun ta hta => ?_⟩
  have s2 := same_upd hta (.tup [V.int 1, V.int 1, V.str n0])
  have hta2 : upd H1 ta (.tup [V.int 1, V.int 1, V.str n0]) ta = some (.tup [V.int 1, V.int 1, V.str n0]) := upd_same
  have k := k.same s2
  have q := q.same s2
  generalize upd H1 ta (.tup [V.int 1, V.int 1, V.str n0]) = H2 at s2 hta2 k q ⊢
  refine ⟨(by show 1 ≤ sizeLine; decide), fun tb2 htb2 => ?_⟩
  have s3 := same_upd htb2 (.tup [V.ref ta])
  have gtb : upd H2 tb2 (.tup [V.ref ta]) tb2 = some (.tup [V.ref ta]) := upd_same
  have k := k.same s3
  have q := q.same s3
  have hta2 := s3 _ _ hta2
  generalize upd H2 tb2 (.tup [V.ref ta]) = H3 at s3 gtb k q hta2 ⊢
  refine ⟨tb2, 6, _, rfl, rfl, SqT.of gtb, (by simp), by decide, by decide, (by show 1 ≤ 1000; decide), fun t4 ht4 => ?_⟩
  rw [show (List.replicate (6 : Int).toNat [V.ref ta]).flatten = List.replicate 6 (V.ref ta) from rfl]
  have s4 := same_upd ht4 (.tup (List.replicate 6 (V.ref ta)))
  have hb : upd H3 t4 (.tup (List.replicate 6 (V.ref ta))) t4 = some (.tup (List.replicate 6 (V.ref ta))) := upd_same
  have k := k.same s4
  have q := q.same s4
  have hta2 := s4 _ _ hta2
  generalize upd H3 t4 (.tup (List.replicate 6 (V.ref ta))) = J3 at s4 hb k q hta2 ⊢
  refine ⟨(by show 3 ≤ sizeLine; decide), fun x hx => ?_⟩
  have s44 := same_upd hx (.tup [V.str "mix", V.str n6, V.ref t4])
  have hp : upd J3 x (.tup [V.str "mix", V.str n6, V.ref t4]) x = some (.tup [V.str "mix", V.str n6, V.ref t4]) := upd_same
  have k := k.same s44
  have q := q.same s44
  have hb := s44 _ _ hb
  have hta2 := s44 _ _ hta2
  generalize upd J3 x (.tup [V.str "mix", V.str n6, V.ref t4]) = J4 at s44 hp k q hb hta2 ⊢
  refine ⟨(by show 1 ≤ sizeLine; decide), fun y hy => ?_⟩
  have s5 := same_upd hy (.lst [V.ref x])
  have g5 : upd J4 y (.lst [V.ref x]) y = some (.lst [V.ref x]) := upd_same
  have k := k.same s5
  have q := q.same s5
  have hp := s5 _ _ hp
  have hb := s5 _ _ hb
  generalize upd J4 y (.lst [V.ref x]) = J5 at s5 g5 k q hp hb ⊢
  refine ⟨pl, y, _, _, rfl, rfl, q.at_, g5, Nat.le_of_lt (small1000 (by rw [List.length_singleton]; omega)), fun l hl => ?_⟩
  have s6 := same_upd hl (.lst (us ++ [V.ref x]))
  have g6 : upd J5 l (.lst (us ++ [V.ref x])) l = some (.lst (us ++ [V.ref x])) := upd_same
  have k := k.same s6
  have q := q.same s6
  have hp := s6 _ _ hp
  have hb := s6 _ _ hb
  generalize upd J5 l (.lst (us ++ [V.ref x])) = J6 at s6 g6 k q hp hb ⊢
  have hta2 := s6 _ _ (s5 _ _ hta2)
  have st : SmT ⟨1, 1, n0⟩ := ⟨by show (-99 : Int) ≤ 1; decide, by show (1 : Int) ≤ 99; decide, by show (0 : Int) ≤ 1; decide, by show (1 : Int) ≤ 4; decide, by have := i0.l4; show n0.length ≤ 10; omega⟩
  have rm : ∀ z ∈ List.replicate 6 (⟨1, 1, n0⟩ : Tm), z = ⟨1, 1, n0⟩ := fun z hz => (List.mem_replicate.mp hz).2
  refine hq D _ _ ⟨b, c, nl, l, ws, us ++ [V.ref x], ps ++ [.mix n6 (List.replicate 6 ⟨1, 1, n0⟩)], k, ⟨strs_nb0 g6 k.bag, g6, q.all.snoc (show PtAt J6 (.ref x) (.mix n6 (List.replicate 6 ⟨1, 1, n0⟩)) from ⟨x, t4, _, rfl, hp, hb, ⟨rfl, fun i u v hu hv => ?_⟩⟩), fun p hp => ?_, by rw [List.length_append, List.length_singleton]; omega⟩, _, _, _, _, _, _, _, _, rfl⟩ post
  · have eu := (List.mem_replicate.mp (List.mem_of_getElem? hu)).2
    have ev := rm v (List.mem_of_getElem? hv)
    rw [eu, ev]
    exact ⟨ta, rfl, hta2⟩
  rcases List.mem_append.mp hp with hp | hp
  · exact q.ok p hp
  · rw [List.mem_singleton.mp hp]
    exact ⟨⟨by have := i6.l4; omega, (by show 6 ≤ 10; decide), fun z hz => by rw [rm z hz]; exact st⟩, i6, (by show 6 ≤ 6; decide), fun z hz => by rw [rm z hz]; exact ⟨st, i0⟩⟩
end
end
end Un
namespace Un
open PySem L2 TL
section
variable {P : Program} {w : World} {K : PySem.W.Frag} {mg : Str → Option Value} {base : Heap}
open XV
/-! ### the words of a net -/
def WNs (l : List Str) : Prop := ∀ z ∈ l, WC z ∧ ¬ z = ";"
theorem WNs.nil : WNs [] := fun z hz => nomatch hz
theorem WNs.cons {x : Str} {l : List Str} (h : WC x ∧ ¬ x = ";") (g : WNs l) : WNs (x :: l) := fun z hz => (List.mem_cons.mp hz).elim (fun e => by rw [e]; exact h) (g z)
theorem WNs.app {l m : List Str} (h : WNs l) (g : WNs m) : WNs (l ++ m) := fun z hz => (List.mem_append.mp hz).elim (h z) (g z)
theorem nm_wn {z : Str} (h : IsNm z) : WC z ∧ ¬ z = ";" := ⟨.nm h, fun e => by
  rw [e] at h
  exact absurd (h.low 59 (by decide +kernel)) (by decide +kernel)⟩
theorem dec_wn {n : Int} (h0 : -99 ≤ n) (h1 : n ≤ 99) : WC (dec n) ∧ ¬ dec n = ";" := ⟨.dec n h0 h1 rfl, dec_semi h0 h1⟩
theorem lit_wn {z : Str} (h : z ∈ LITS) (g : ¬ z = ";") : WC z ∧ ¬ z = ";" := ⟨.lit h, g⟩
theorem bare_wn {t : Tm} (h : SmT t) (n : IsNm t.a) : WNs (bare t) := by
  have d0 := h.d0
  have d1 := h.d1
  unfold bare
  refine WNs.app (.cons (dec_wn h.n0 h.n1) (.cons (nm_wn n) .nil)) ?_
  by_cases e : t.d = 0
  · rw [if_pos e]; exact .nil
  · rw [if_neg e]; exact .cons (lit_wn (by decide +kernel) (by decide +kernel)) (.cons (dec_wn (by omega) (by omega)) .nil)
theorem comma_wn : ∀ {ts : List Tm}, (∀ t ∈ ts, SmT t ∧ IsNm t.a) → WNs (commaW ts)
  | [], _ => .nil
  | t :: r, h => .cons (lit_wn (by decide +kernel) (by decide +kernel)) ((bare_wn (h t (List.mem_cons_self ..)).1 (h t (List.mem_cons_self ..)).2).app (comma_wn fun u hu => h u (List.mem_cons_of_mem _ hu)))
theorem tms_wn : ∀ {ts : List Tm}, (∀ t ∈ ts, SmT t ∧ IsNm t.a) → WNs (tmsW ts ts.length)
  | [], _ => .nil
  | t :: r, h => by
    rw [tmsW_cons]
    exact (bare_wn (h t (List.mem_cons_self ..)).1 (h t (List.mem_cons_self ..)).2).app (comma_wn fun u hu => h u (List.mem_cons_of_mem _ hu))
theorem names_wn {l : List Str} (h : ∀ z ∈ l, IsNm z) : WNs l := fun z hz => nm_wn (h z hz)
theorem pt_wn : ∀ {p : Pt}, OkP p → WNs (ptW p)
  | .flat k w es, ⟨nw, h⟩ => by
    show WNs (w :: k :: es)
    refine .cons (nm_wn nw) ?_
    rcases h with ⟨e, rfl⟩ | ⟨e, fn, en, rfl, nf, ne⟩ | ⟨e, fn, en, gn, rfl, nf, ne, ng⟩
    · rw [e]; exact .cons (lit_wn (by decide +kernel) (by decide +kernel)) .nil
    · refine .cons ?_ (.cons (nm_wn nf) (.cons (nm_wn ne) .nil))
      rcases e with e | e | e <;> (rw [e]; exact lit_wn (by decide +kernel) (by decide +kernel))
    · rw [e]; exact .cons (lit_wn (by decide +kernel) (by decide +kernel)) (.cons (nm_wn nf) (.cons (nm_wn ne) (.cons (nm_wn ng) .nil)))
  | .mix w ts, ⟨nw, _, h⟩ => .cons (nm_wn nw) (.cons (lit_wn (by decide +kernel) (by decide +kernel)) (tms_wn h))
  | .use w p es, ⟨nw, np, _, h⟩ => .cons (nm_wn nw) (.cons (lit_wn (by decide +kernel) (by decide +kernel)) (.cons (nm_wn np) (names_wn h)))
theorem WNs.semi {l : List Str} (h : WNs l) : semis l = 0 := by
  unfold semis
  rw [List.length_eq_zero_iff, List.filter_eq_nil_iff]
  intro z hz e
  exact (h z hz).2 (of_decide_eq_true e)
theorem parts_wc : ∀ {ps : List Pt}, (∀ p ∈ ps, OkP p) → (∀ z ∈ partsW ps, WC z) ∧ semis (partsW ps) ≤ ps.length
  | [], _ => ⟨fun z hz => (nomatch hz), Nat.le_refl _⟩
  | p :: r, h => by
    obtain ⟨h1, h2⟩ := parts_wc (ps := r) fun u hu => h u (List.mem_cons_of_mem _ hu)
    have wp := pt_wn (h p (List.mem_cons_self ..))
    refine ⟨fun z hz => ?_, ?_⟩
    · have hz : z ∈ ptW p ++ (";" : Str) :: partsW r := hz
      rcases List.mem_append.mp hz with hz | hz
      · exact (wp z hz).1
      · rcases List.mem_cons.mp hz with hz | hz
        · rw [hz]; exact .lit (by decide +kernel)
        · exact h1 z hz
    · show semis (ptW p ++ (";" : Str) :: partsW r) ≤ r.length + 1
      have e2 : semis ((";" : Str) :: partsW r) ≤ semis (partsW r) + 1 := by
        have := semis_app [(";" : Str)] (partsW r)
        have h3 := semis_le [(";" : Str)]
        rw [show (";" : Str) :: partsW r = [(";" : Str)] ++ partsW r from rfl, this]
        have : ([(";" : Str)] : List Str).length = 1 := rfl
        omega
      rw [semis_app, wp.semi]
      omega
theorem net_wc {ps : List Pt} {os : List Str} (h : ∀ p ∈ ps, SmP p ∧ OkP p) (g : ∀ z ∈ os, IsNm z) (hl : ps.length ≤ 8) (gl : os.length ≤ 4) : (∀ z ∈ netW ps os, WC z) ∧ semis (netW ps os) ≤ 8 ∧ (netW ps os).length ≤ 500 := by
  obtain ⟨h1, h2⟩ := parts_wc (ps := ps) fun p hp => (h p hp).2
  refine ⟨fun z hz => ?_, ?_, ?_⟩
  · rw [netW_eq] at hz
    rcases List.mem_append.mp hz with hz | hz
    · exact h1 z hz
    · rcases List.mem_cons.mp hz with hz | hz
      · rw [hz]; exact .lit (by decide +kernel)
      · exact .nm (g z hz)
  · rw [netW_eq, semis_app]
    have : WNs ((">" : Str) :: os) := .cons (lit_wn (by decide +kernel) (by decide +kernel)) (names_wn g)
    rw [this.semi]
    omega
  · have := (psW_lo (fun p hp => (h p hp).1) ps.length).1
    unfold netW
    rw [List.length_append, List.length_append, List.length_singleton]
    omega
/-- the words -/
structure KW (H : Hp) (b wl : Addr) (W : List Str) (m n : Nat) : Prop where
  at_ : H wl = some (.lst (W.map V.str))
  wc : ∀ z ∈ W, WC z
  l : W.length ≤ m
  s : semis W ≤ n
def Pre2 (m n : Nat) (T : TL') (scr : Addr) (σ : L2.St) (H : Hp) : Prop := ∃ (b c nl wl : Addr) (ws W : List Str), KN T H b c nl ws ∧ KW H b wl W m n ∧ ∃ v2 v4 v6 v7 v8 v9 v10 v11 : Option V, σ = [some (.ref scr), some (.ref b), v2, some (.ref nl), v4, some (.ref wl), v6, v7, v8, v9, v10, v11]
/-- the text, its words, the wrong one -/
structure KT (T : TL') (H : Hp) (b c : Addr) (z : Str) (W : List Str) : Prop where
  bag : Bag H b c
  tabs : LamX.Tabs T H
  zj : z = Txt.join " " W
  sp : Txt.split z " " = W
  wc : ∀ z ∈ W, WC z
  l : W.length ≤ 600
  s : semis W ≤ 12
theorem KT.same {T : TL'} {H H' : Hp} {b c : Addr} {z : Str} {W : List Str} (k : KT T H b c z W) (s : Same H H') : KT T H' b c z W := ⟨k.bag.same s, k.tabs.ext s, k.zj, k.sp, k.wc, k.l, k.s⟩
theorem KT.ext {T : TL'} {H H' : Hp} {b c : Addr} {z : Str} {W : List Str} (k : KT T H b c z W) (e : LamX.ExtN H H') (t : LamX.Tabs T H') : KT T H' b c z W := ⟨Bag_ext k.bag e, t, k.zj, k.sp, k.wc, k.l, k.s⟩
theorem KT.zl {T : TL'} {H : Hp} {b c : Addr} {z : Str} {W : List Str} (k : KT T H b c z W) : z.length ≤ 6600 := by
  rw [k.zj]
  have := join_len (wc_lo k.wc)
  have := k.l
  omega
def Pre3 (T : TL') (scr : Addr) (σ : L2.St) (H : Hp) : Prop := ∃ (b c : Addr) (z : Str) (W : List Str), KT T H b c z W ∧ ∃ v2 v3 v4 v5 v8 v9 v10 v11 : Option V, σ = [some (.ref scr), some (.ref b), v2, v3, v4, v5, some (.str z), some (.int (wrI (pNet (W.length + 1) W) 0)), v8, v9, v10, v11]
theorem sum_le10 : ∀ {l : List Str}, (∀ z ∈ l, z.length ≤ 10) → (l.map (·.length)).sum ≤ 10 * l.length
  | [], _ => Nat.zero_le _
  | z :: r, h => by
    have := sum_le10 (l := r) fun y hy => h y (List.mem_cons_of_mem _ hy)
    have := h z (List.mem_cons_self ..)
    rw [List.map_cons, List.sum_cons, List.length_cons]
    omega
section
variable {CN CT g ff U M' NL f scr c0 P0 : Addr} {oc kV doc pm cdw ct : Value} {od an : Option Addr} {osl : Array (Option Value)} {fdF : FuncData} {T : TL'} {A : Around} {outer : List Env} {s : Shared} {H0 : Hp} {E : XK}
theorem segD (L : LawD P w K mg base CN CT g ff U M' NL oc kV doc pm cdw ct od an osl fdF) (TB : LamX.TabB base mg c0 P0) (hT : T = [(P0, (lawX P w K mg base f (.ref c0) A outer s H0 E).env.qual ++ "<lambda>")]) (hr : Room 10 (lawX P w K mg base f (.ref c0) A outer s H0 E).A) (next : SegP (lawX P w K mg base f (.ref c0) A outer s H0 E) 5 (Pre2 510 9 T scr) (LInv T scr)) : SegP (lawX P w K mg base f (.ref c0) A outer s H0 E) 4 (Pre1 8 T scr) (LInv T scr) := by
  obtain ⟨t, ht, hq⟩ := next
  have mlen := L.len
  have mrange := L.range
  have mtuple := L.tuple
  obtain ⟨_, _, GP⟩ := L.GP
  obtain ⟨_, _, GW⟩ := L.GW
  obtain ⟨_, _, GBt⟩ := L.GBt
  refine ⟨_, (pss_cons (ps_set (i := 5) scLaw.nd rfl (by first | exact Or.inl rfl | exact Or.inr rfl) (pe_call GBt.ok (hr.mono (by decide)) (by rfl) GBt.m GBt.kp GBt.b .nil pass0 (pa_cons (pv 1) (pa_cons (pe_call GW.ok (hr.mono (by decide)) (by rfl) GW.m GW.kp GW.b .nil pass0 (pa_cons (pv 4) (pa_cons (pe_slice sl_list (pv 3) po_none (po_some (pe_op op_add pe_int (pe_call GP.ok (hr.mono (by decide)) (by rfl) GP.m GP.kp GP.b .nil pass0 (pa_cons (pv 1) (pa_cons pe_int pa_nil)))))) pa_nil))) (pa_cons (pv 3) pa_nil)))))
 ht), fun D σ H pre post => ?_⟩
  obtain ⟨b, c, nl, pl, ws, us, ps, k, q, v2, v5, v6, v7, v8, v9, v10, v11, rfl⟩ := pre
  refine ⟨.ref b, rfl, _, rfl, .ref nl, rfl, .ref b, rfl, b, c, 4, rfl, k.bag, by decide, by decide, fun d H1 d0 d1 B1 k1 => ?_⟩
  have q := q.kp k.bag k1
  have k := k.kp B1 k1
  obtain ⟨d', hd', e'⟩ : ∃ d' : Nat, d' ≤ 4 ∧ (1 + d : Int) = (d' : Int) := ⟨(1 + d).toNat, by omega, by omega⟩
  refine ⟨1, d, rfl, rfl, _, rfl, nl, _, rfl, SqL.of k.nm.at_, fun m hm => ?_⟩
  rw [e', cutT]
  have s2 := same_upd hm (.lst ((ws.take d').map V.str))
  have gm : upd H1 m (.lst ((ws.take d').map V.str)) m = some (.lst ((ws.take d').map V.str)) := upd_same
  have k := k.same s2
  have q := q.same s2
  generalize upd H1 m (.lst ((ws.take d').map V.str)) = H2 at s2 gm k q ⊢
  have nt : ∀ z ∈ ws.take d', IsNm z := fun z hz => k.nm.nm z (List.mem_of_mem_take hz)
  have tl4 : (ws.take d').length ≤ 4 := by rw [List.length_take]; omega
  refine ⟨pl, m, us, ps, ws.take d', rfl, SqL.of q.at_, q.all, by have := q.l; omega, fun p hp => (q.ok p hp).1, SqL.of gm, ⟨by omega, fun z hz => by have := (nt z hz).l4; omega⟩, fun l H3 s3 hl0 hl => ?_⟩
  have k := k.same s3
  obtain ⟨n1, n2, n3⟩ := net_wc q.ok nt q.l tl4
  refine ⟨_, rfl, b, c, l, nl, netW ps (ws.take d'), ws, rfl, k.bag, hl, by omega, n1, k.nm.at_, by rw [k.w7]; decide, k.nm.nm, fun t W' H4 B4 k4 ht bt => ?_⟩
  have k := k.kp B4 k4
  exact hq D _ _ ⟨b, c, nl, t, ws, W', k, ⟨ht, bt.wc, by have := bt.le; omega, by have := bt.semi; omega⟩, _, _, _, _, _, _, _, _, rfl⟩ post
theorem segE (L : LawD P w K mg base CN CT g ff U M' NL oc kV doc pm cdw ct od an osl fdF) (TB : LamX.TabB base mg c0 P0) (hT : T = [(P0, (lawX P w K mg base f (.ref c0) A outer s H0 E).env.qual ++ "<lambda>")]) (hr : Room 10 (lawX P w K mg base f (.ref c0) A outer s H0 E).A) (next : SegP (lawX P w K mg base f (.ref c0) A outer s H0 E) 6 (Pre2 520 10 T scr) (LInv T scr)) : SegP (lawX P w K mg base f (.ref c0) A outer s H0 E) 5 (Pre2 510 9 T scr) (LInv T scr) := by
  obtain ⟨t, ht, hq⟩ := next
  have mlen := L.len
  have mrange := L.range
  have mtuple := L.tuple
  obtain ⟨_, _, GP⟩ := L.GP
  obtain ⟨_, _, GBt⟩ := L.GBt
  refine ⟨_, (pss_cons (ps_if (pt_cmpR op_eq (pe_call GP.ok (hr.mono (by decide)) (by rfl) GP.m GP.kp GP.b .nil pass0 (pa_cons (pv 1) (pa_cons pe_int pa_nil))) pe_int (nomark _))
 (pss_one (ps_set (i := 5) scLaw.nd rfl (by first | exact Or.inl rfl | exact Or.inr rfl) (pe_call GBt.ok (hr.mono (by decide)) (by rfl) GBt.m GBt.kp GBt.b .nil pass0 (pa_cons (pv 1) (pa_cons (pv 5) (pa_cons (pv 3) pa_nil))))))
 pss_nil)
 ht), fun D σ H pre post => ?_⟩
  obtain ⟨b, c, nl, wl, ws, W, k, q, v2, v4, v6, v7, v8, v9, v10, v11, rfl⟩ := pre
  have nw := strs_nb q.at_ k.bag
  refine ⟨.ref b, rfl, b, c, 3, rfl, k.bag, by decide, by decide, fun d H1 d0 d1 B1 k1 => ⟨rfl, _, rfl, ?_⟩⟩
  have hw := k1 _ _ q.at_ nw
  have k := k.kp B1 k1
  by_cases hd : V.int d = V.int 0
  rotate_left
  · rw [decide_eq_false hd]
    exact iteF (hq D _ _ ⟨b, c, nl, wl, ws, W, k, ⟨hw, q.wc, by have := q.l; omega, by have := q.s; omega⟩, _, _, _, _, _, _, _, _, rfl⟩ post)
  rw [decide_eq_true hd]
  refine iteT ⟨.ref b, rfl, _, rfl, _, rfl, b, c, wl, nl, W, ws, rfl, k.bag, hw, by have := q.l; omega, q.wc, k.nm.at_, by rw [k.w7]; decide, k.nm.nm, fun t W' H4 B4 k4 ht bt => ?_⟩
  have k := k.kp B4 k4
  exact hq D _ _ ⟨b, c, nl, t, ws, W', k, ⟨ht, bt.wc, by have := bt.le; have := q.l; omega, by have := bt.semi; have := q.s; omega⟩, _, _, _, _, _, _, _, _, rfl⟩ post
theorem segF (L : LawD P w K mg base CN CT g ff U M' NL oc kV doc pm cdw ct od an osl fdF) (TB : LamX.TabB base mg c0 P0) (hT : T = [(P0, (lawX P w K mg base f (.ref c0) A outer s H0 E).env.qual ++ "<lambda>")]) (hr : Room 10 (lawX P w K mg base f (.ref c0) A outer s H0 E).A) (next : SegP (lawX P w K mg base f (.ref c0) A outer s H0 E) 9 (Pre3 T scr) (LInv T scr)) : SegP (lawX P w K mg base f (.ref c0) A outer s H0 E) 6 (Pre2 520 10 T scr) (LInv T scr) := by
  obtain ⟨t, ht, hq⟩ := next
  have mlen := L.len
  have mrange := L.range
  have mtuple := L.tuple
  obtain ⟨_, _, GWw⟩ := L.GWw
  refine ⟨_, (pss_cons (ps_set (i := 6) scLaw.nd rfl (by first | exact Or.inl rfl | exact Or.inr rfl) (pe_join pe_str (pv 5)))
 (pss_cons (ps_set (i := 5) scLaw.nd rfl (by first | exact Or.inl rfl | exact Or.inr rfl) (pe_split (pv 6) pe_str))
 (pss_cons (ps_set (i := 7) scLaw.nd rfl (by first | exact Or.inl rfl | exact Or.inr rfl) (pe_call GWw.ok (hr.mono (by decide)) (by rfl) GWw.m GWw.kp GWw.b .nil pass0 (pa_cons (pv 5) pa_nil)))
 ht))), fun D σ H pre post => ?_⟩
  obtain ⟨b, c, nl, wl, ws, W, k, q, v2, v4, v6, v7, v8, v9, v10, v11, rfl⟩ := pre
  have ul := unW_len W
  have ql := q.l
  have lo := wc_lo q.wc
  have jl := join_len lo
  have h1 : (200000 : Nat) ≤ sizeLine := by decide
  refine ⟨⟨_, rfl⟩, _, rfl, " ", wl, W, rfl, rfl, .inl (SqL.of q.at_), ?_, ?_⟩
  · have := sum_le10 (l := W) (fun z hz => (q.wc z hz).len)
    show _ + W.length * 1 ≤ _
    omega
  refine ⟨_, rfl, ⟨_, rfl⟩, _, " ", rfl, rfl, by decide +kernel, by omega, fun L hL => ?_⟩
  rw [unW_split q.wc]
  have s2 := same_upd hL (.lst ((unW W).map V.str))
  have gL : upd H L (.lst ((unW W).map V.str)) L = some (.lst ((unW W).map V.str)) := upd_same
  have k := k.same s2
  generalize upd H L (.lst ((unW W).map V.str)) = H2 at s2 gL k ⊢
  have wl2 : WL H2 L (unW W) := ⟨gL, by omega, unW_wc q.wc⟩
  refine ⟨_, rfl, L, unW W, rfl, wl2, fun H3 s3 => ?_⟩
  have k := k.same s3
  exact hq D _ _ ⟨b, c, Txt.join " " W, unW W, ⟨k.bag, k.tabs, (unW_join W).symm, unW_split q.wc, unW_wc q.wc, by omega, by have := unW_semi W; have := q.s; omega⟩, _, _, _, _, _, _, _, _, rfl⟩ post
end
end
end Un
namespace Un
open PySem L2 TL
section
variable {P : Program} {w : World} {K : PySem.W.Frag} {mg : Str → Option Value} {base : Heap}
open XV
def ToldE (H : Hp) (t : Addr) (k : Nat) : Prop := ∃ t1, H t = some (.tup [.str "InvalidText", .ref t1]) ∧ H t1 = some (.tup [.int (k : Nat)])
theorem ToldE.same {H H' : Hp} {t : Addr} {k : Nat} (h : ToldE H t k) (s : Same H H') : ToldE H' t k := by
  obtain ⟨t1, h1, h2⟩ := h
  exact ⟨t1, s _ _ h1, s _ _ h2⟩
theorem ToldE.ext {H H' : Hp} {t : Addr} {k : Nat} (h : ToldE H t k) (s : LamX.ExtN H H') : ToldE H' t k := by
  obtain ⟨t1, h1, h2⟩ := h
  exact ⟨t1, s _ _ h1 (fun _ z => nomatch z), s _ _ h2 (fun _ z => nomatch z)⟩
/-- a text that was read: the net's parts and outputs -/
structure Gd (H : Hp) (tf : Addr) (z : Str) : Prop where
  ex : ∃ (x t1 t2 : Addr) (us : List V) (ps : List Pt) (os : List Str), H tf = some (.tup [.str "", .ref x]) ∧ H x = some (.tup [.ref t1, .ref t2]) ∧ H t1 = some (.tup us) ∧ All2 (PtAt H) us ps ∧ H t2 = some (.tup (os.map V.str)) ∧ ps.length ≤ 20 ∧ (∀ p ∈ ps, SmP p) ∧ Lo os 20 ∧ z = Txt.join " " (netW ps os)
def Pre4 (T : TL') (scr : Addr) (σ : L2.St) (H : Hp) : Prop := ∃ (b c tf : Addr) (z : Str) (W : List Str), KT T H b c z W ∧ ((∃ k, pNet (W.length + 1) W = .er k ∧ ToldE H tf k) ∨ ((∃ m r, pNet (W.length + 1) W = .ok m r) ∧ Gd H tf z)) ∧ ∃ v2 v3 v4 v5 v9 v10 v11 : Option V, σ = [some (.ref scr), some (.ref b), v2, v3, v4, v5, some (.str z), some (.int (wrI (pNet (W.length + 1) W) 0)), some (.ref tf), v9, v10, v11]
section
variable {CN CT g ff U M' NL f scr c0 P0 : Addr} {oc kV doc pm cdw ct : Value} {od an : Option Addr} {osl : Array (Option Value)} {fdF : FuncData} {T : TL'} {A : Around} {outer : List Env} {s : Shared} {H0 : Hp} {E : XK}
theorem segG (L : LawD P w K mg base CN CT g ff U M' NL oc kV doc pm cdw ct od an osl fdF) (TB : LamX.TabB base mg c0 P0) (hT : T = [(P0, (lawX P w K mg base f (.ref c0) A outer s H0 E).env.qual ++ "<lambda>")]) (hr : Room 10 (lawX P w K mg base f (.ref c0) A outer s H0 E).A) (next : SegP (lawX P w K mg base f (.ref c0) A outer s H0 E) 10 (Pre4 T scr) (LInv T scr)) : SegP (lawX P w K mg base f (.ref c0) A outer s H0 E) 9 (Pre3 T scr) (LInv T scr) := by
  obtain ⟨t, ht, hq⟩ := next
  have mlen := L.len
  have mrange := L.range
  have mtuple := L.tuple
  obtain ⟨_, _, DN⟩ := L.DN
  refine ⟨_, (pss_cons (ps_set (i := 8) scLaw.nd rfl (by first | exact Or.inl rfl | exact Or.inr rfl) (LamX.pe_lamcall (X := lawX P w K mg base f (.ref c0) A outer s H0 E) (T := T) (TT := TWhy K [.ref U, .ref M', .ref NL]) (k := 8) (t := fun E => (tCall (spNetR K CT) [] E (tCons (tVar 6) tNil))) (by rfl) L.mW L.kW L.lkW L.hcW L.bW scWhy rfl (Or.inl rfl) (why_gives (hr.mono (by decide)) L.GFd L.bF L.kF L.mF L.mU L.mM L.mN) TB rfl (by rw [hT]; exact List.mem_singleton.mpr rfl) (fun p hp _ => by rw [hT] at hp; rw [List.mem_singleton.mp hp]) (hr.mono (by decide)) (LamX.lamS_by (sc := defScope sLaw) (by decide +kernel)) rfl (fun _ _ _ _ _ => by rfl)
   (fun A outer s H E f c' hr2 => (pe_call DN.ok (hr2.mono (by decide)) (by rfl) DN.m DN.kp DN.b .nil (passes_call (takes_of rfl rfl rfl rfl) fun _ _ _ _ h => h) (pa_cons (pv 6) pa_nil)))))
 ht), fun D σ H pre post => ?_⟩
  obtain ⟨b, c, z, W, k0, v2, v3, v4, v5, v8, v9, v10, v11, rfl⟩ := pre
  refine ⟨k0.tabs, fun H1 ext tabs1 => ?_⟩
  have k1 := k0.ext ext tabs1
  have zl := k1.zl
  have wl := k1.l
  refine ⟨_, rfl, ?_⟩
  cases hp : pNet (W.length + 1) W with
  | er k =>
    refine .inr (.inl ⟨z, k, rfl, by omega, by rw [k1.sp]; omega, by rw [k1.sp]; exact k1.wc, by rw [k1.sp]; exact hp, fun d' H2 s2 hd hd' => ⟨"InvalidText", [.int (k : Nat)], ⟨CT, d', _, rfl, L.erT.xf, L.erT.at_, rfl, hd', rfl, .cInvalidText rfl⟩, L.erT.ex, fun t2 t1 H3 s3 ht2 ht1 ht2' => ?_⟩⟩)
    have k3 := k1.same (s2.trans s3)
    exact hq D _ _ ⟨b, c, t2, z, W, k3, .inl ⟨k, hp, t1, ht2', ht1⟩, _, _, _, _, _, _, _, by rw [hp]; rfl⟩ post
  | ok m r =>
    obtain ⟨ps, os, hok, hos, o0, o4, eW⟩ := pNet_ok hp
    have ez : z = Txt.join " " (netW ps os) := by rw [k1.zj, eW, netW_eq]
    have pl : ps.length ≤ 20 := by
      have h1 := semis_parts ps
      have h2 := k1.s
      rw [eW, semis_app] at h2
      omega
    refine .inl ⟨ps, os, by rw [← ez]; rfl, pl, fun p hp => ⟨(hok p hp).2, (hok p hp).1⟩, o0, o4, hos, fun x t1 t2 us H2 s2 hx h1 hA h2 => ⟨(by show 2 ≤ sizeLine; decide), fun t ht => ?_⟩⟩
    have s3 := same_upd ht (.tup [.str "", .ref x])
    have k3 := k1.same (s2.trans s3)
    exact hq D _ _ ⟨b, c, t, z, W, k3, .inr ⟨⟨m, r, hp⟩, ⟨x, t1, t2, us, ps, os, upd_same, s3 _ _ hx, s3 _ _ h1, hA.mono fun _ _ z => z.tups (Same.tups s3), s3 _ _ h2, pl, fun p hp => (hok p hp).2, ⟨by omega, fun z hz => by have := (hos z hz).l4; omega⟩, ez⟩⟩, _, _, _, _, _, _, _, by rw [hp]; rfl⟩ post
end
end
end Un
namespace Un
open PySem L2 TL
section
variable {P : Program} {w : World} {K : PySem.W.Frag} {mg : Str → Option Value} {base : Heap}
open XV
section
variable {CN CT g ff U M' NL f scr c0 P0 : Addr} {oc kV doc pm cdw ct : Value} {od an : Option Addr} {osl : Array (Option Value)} {fdF : FuncData} {T : TL'} {A : Around} {outer : List Env} {s : Shared} {H0 : Hp} {E : XK}
theorem segH (L : LawD P w K mg base CN CT g ff U M' NL oc kV doc pm cdw ct od an osl fdF) (TB : LamX.TabB base mg c0 P0) (hT : T = [(P0, (lawX P w K mg base f (.ref c0) A outer s H0 E).env.qual ++ "<lambda>")]) (hr : Room 10 (lawX P w K mg base f (.ref c0) A outer s H0 E).A) : SegP (lawX P w K mg base f (.ref c0) A outer s H0 E) 10 (Pre4 T scr) (LInv T scr) := by
  have mlen := L.len
  have mrange := L.range
  have mtuple := L.tuple
  obtain ⟨_, _, GQ⟩ := L.GQ
  obtain ⟨_, _, GT⟩ := L.GT
  obtain ⟨mcR, prR, gR, fdR, dsR, RDc, SD, bR, dR, okR⟩ := L.read
  refine ⟨_, (pss_cons (ps_set (i := 9) scLaw.nd rfl (by first | exact Or.inl rfl | exact Or.inr rfl) (pe_ifExp (pt_cmpR op_ge (pv 7) pe_int (nomark _)) (LamX.pe_lamcall (X := lawX P w K mg base f (.ref c0) A outer s H0 E) (T := T) (TT := TWhy K [.ref U, .ref M', .ref NL]) (k := 8) (t := fun E => (StaX.tSM CN (spReadB K CT) [.non] E _ (tCons (tVar 6) tNil))) (by rfl) L.mW L.kW L.lkW L.hcW L.bW scWhy rfl (Or.inl rfl) (why_gives (hr.mono (by decide)) L.GFd L.bF L.kF L.mF L.mU L.mM L.mN) TB rfl (by rw [hT]; exact List.mem_singleton.mpr rfl) (fun p hp _ => by rw [hT] at hp; rw [List.mem_singleton.mp hp]) (hr.mono (by decide)) (LamX.lamS_by (sc := defScope sLaw) (by decide +kernel)) rfl (fun _ _ _ _ _ => by rfl)
   (fun A outer s H E f c' hr2 => (StaX.pe_smeth (C8.pe_gc (v := .ref CN) (by rfl) ⟨_, L.mN', rfl⟩) RDc SD okR (hr2.mono (by decide)) bR dR (passes_call (takes_of rfl rfl rfl rfl) fun _ _ _ _ h => h) (pa_cons (pv 6) pa_nil)))) (pv 8)))
 (pss_cons (ps_if (PW.pt (pw_and (pt_cmpR op_ge (pv 7) pe_int (nomark _)) (pw_and1 (pt_not (pt_val (pe_call GQ.ok (hr.mono (by decide)) (by rfl) GQ.m GQ.kp GQ.b .nil pass0 (pa_cons (pe_lst (pa_cons (pv 8) (pa_cons (pv 9) pa_nil))) (pa_cons (pe_op op_rep (pe_lst (pa_cons (pe_tup (pa_cons pe_str (pa_cons (pe_tup (pa_cons (pv 7) pa_nil)) pa_nil))) pa_nil)) pe_int) pa_nil))))))))
 (pss_one (ps_ret pe_bl))
 pss_nil)
 (pss_one (ps_if (PW.pt (pw_and (pt_cmpR op_lt (pv 7) pe_int (nomark _)) (pw_and1 (pt_not (PW.pt (pw_and (pt_val (pe_call GQ.ok (hr.mono (by decide)) (by rfl) GQ.m GQ.kp GQ.b .nil pass0 (pa_cons (pe_ix ix_tup (pv 8) pe_int (fun _ _ => rfl)) (pa_cons pe_str pa_nil)))) (pw_and1 (pt_val (pe_call GQ.ok (hr.mono (by decide)) (by rfl) GQ.m GQ.kp GQ.b .nil pass0 (pa_cons (pe_call GT.ok (hr.mono (by decide)) (by rfl) GT.m GT.kp GT.b .nil pass0 (pa_cons (pe_ix ix_tup (pe_ix ix_tup (pv 8) pe_int (fun _ _ => rfl)) pe_int (fun _ _ => rfl)) (pa_cons (pe_ix ix_tup (pe_ix ix_tup (pv 8) pe_int (fun _ _ => rfl)) pe_int (fun _ _ => rfl)) pa_nil))) (pa_cons (pv 6) pa_nil)))))))))))
 (pss_one (ps_ret pe_bl))
 pss_nil)))), fun D σ H pre post => ?_⟩
  obtain ⟨b, c, tf, z, W, k0, hor, v2, v3, v4, v5, v9, v10, v11, rfl⟩ := pre
  rcases hor with ⟨k, hp, told⟩ | ⟨⟨m, r, hp⟩, gd⟩
  · have e7 : V.int (wrI (pNet (W.length + 1) W) 0) = V.int (k : Nat) := by rw [hp]; show V.int ((0 + k : Nat) : Int) = _; rw [Nat.zero_add]
    rw [e7]
    refine ⟨_, rfl, _, 0, rfl, rfl, _, rfl, ?_⟩
    rw [decide_eq_true (show (0 : Int) ≤ ((k : Nat) : Int) by omega)]
    refine iteT ⟨k0.tabs, fun H1 ext tabs1 => ?_⟩
    have k1 := k0.ext ext tabs1
    have told := told.ext ext
    have zl := k1.zl
    have wl := k1.l
    refine ⟨rfl, _, rfl, .str z, rfl, .inl ⟨z, k, rfl, by omega, by rw [k1.sp]; omega, by rw [k1.sp]; exact k1.wc, by rw [k1.sp]; exact hp, fun d' H2 s2 hd hd' => ⟨"InvalidText", [.int (k : Nat)], ⟨CT, d', _, rfl, L.erT.xf, L.erT.at_, rfl, hd', rfl, .cInvalidText rfl⟩, L.erT.ex, fun t2 t1 H3 s3 ht2 ht1 ht2' => ?_⟩⟩⟩
    obtain ⟨q1, hq1, hq2⟩ := told.same (s2.trans s3)
    have k3 := k1.same (s2.trans s3)
    refine ⟨_, rfl, _, 0, rfl, rfl, _, rfl, ?_⟩
    rw [decide_eq_true (show (0 : Int) ≤ ((k : Nat) : Int) by omega)]
    refine iteT ⟨_, rfl, _, rfl, (by show 2 ≤ sizeLine; decide), fun fl hfl => ?_⟩
    have s4 := same_upd hfl (.lst [V.ref tf, V.ref t2])
    have g1 : upd H3 fl (.lst [V.ref tf, V.ref t2]) fl = some (.lst [V.ref tf, V.ref t2]) := upd_same
    have k3 := k3.same s4
    have hq1 := s4 _ _ hq1
    have hq2 := s4 _ _ hq2
    have ht1 := s4 _ _ ht1
    have ht2' := s4 _ _ ht2'
    generalize upd H3 fl (.lst [V.ref tf, V.ref t2]) = H4 at s4 g1 k3 hq1 hq2 ht1 ht2' ⊢
    refine ⟨_, rfl, (by show 1 ≤ sizeLine; decide), fun ti hti => ?_⟩
    have s5 := same_upd hti (.tup [V.int (k : Nat)])
    have g2 : upd H4 ti (.tup [V.int (k : Nat)]) ti = some (.tup [V.int (k : Nat)]) := upd_same
    have k3 := k3.same s5
    have hq1 := s5 _ _ hq1
    have hq2 := s5 _ _ hq2
    have ht1 := s5 _ _ ht1
    have ht2' := s5 _ _ ht2'
    have g1 := s5 _ _ g1
    generalize upd H4 ti (.tup [V.int (k : Nat)]) = H5 at s5 g2 k3 hq1 hq2 ht1 ht2' g1 ⊢
    refine ⟨(by show 2 ≤ sizeLine; decide), fun td htd => ?_⟩
    have s6 := same_upd htd (.tup [V.str "InvalidText", V.ref ti])
    have g3 : upd H5 td (.tup [V.str "InvalidText", V.ref ti]) td = some (.tup [V.str "InvalidText", V.ref ti]) := upd_same
    have k3 := k3.same s6
    have hq1 := s6 _ _ hq1
    have hq2 := s6 _ _ hq2
    have ht1 := s6 _ _ ht1
    have ht2' := s6 _ _ ht2'
    have g1 := s6 _ _ g1
    have g2 := s6 _ _ g2
    generalize upd H5 td (.tup [V.str "InvalidText", V.ref ti]) = H6 at s6 g3 k3 hq1 hq2 ht1 ht2' g1 g2 ⊢
    refine ⟨(by show 1 ≤ sizeLine; decide), fun lo hlo => ?_⟩
    have s7 := same_upd hlo (.lst [V.ref td])
    have g4 : upd H6 lo (.lst [V.ref td]) lo = some (.lst [V.ref td]) := upd_same
    have k3 := k3.same s7
    have hq1 := s7 _ _ hq1
    have hq2 := s7 _ _ hq2
    have ht1 := s7 _ _ ht1
    have ht2' := s7 _ _ ht2'
    have g1 := s7 _ _ g1
    have g2 := s7 _ _ g2
    have g3 := s7 _ _ g3
    generalize upd H6 lo (.lst [V.ref td]) = H7 at s7 g4 k3 hq1 hq2 ht1 ht2' g1 g2 g3 ⊢
    refine ⟨lo, 2, _, rfl, rfl, g4, by decide, by decide, (by show 2 ≤ sizeLine; decide), fun fd hfd => ?_⟩
    rw [show (List.replicate (2 : Int).toNat [V.ref td]).flatten = [V.ref td, V.ref td] from rfl]
    have s8 := same_upd hfd (.lst [V.ref td, V.ref td])
    have g5 : upd H7 fd (.lst [V.ref td, V.ref td]) fd = some (.lst [V.ref td, V.ref td]) := upd_same
    have k3 := k3.same s8
    have hq1 := s8 _ _ hq1
    have hq2 := s8 _ _ hq2
    have ht1 := s8 _ _ ht1
    have ht2' := s8 _ _ ht2'
    have g1 := s8 _ _ g1
    have g2 := s8 _ _ g2
    have g3 := s8 _ _ g3
    generalize upd H7 fd (.lst [V.ref td, V.ref td]) = H8 at s8 g5 k3 hq1 hq2 ht1 ht2' g1 g2 g3 ⊢
    have lf : ∀ z ∈ [V.int (k : Nat)], Leaf z := fun z hz => by
      rw [List.mem_singleton.mp hz]
      exact trivial
    refine ⟨.ref fl, .ref fd, rfl, eqv_lst g1 g5 ⟨eqv_told 2 hq1 hq2 g3 g2 (by show 1 ≤ 2; decide) lf, eqv_told 2 ht2' ht1 g3 g2 (by show 1 ≤ 2; decide) lf, trivial⟩ (by show 2 ≤ 100000; decide), fun H9 s9 => ⟨_, rfl, iteF ?_⟩⟩
    have k3 := k3.same s9
    refine ⟨_, rfl, _, 0, rfl, rfl, _, rfl, ?_⟩
    rw [decide_eq_false (show ¬ ((k : Nat) : Int) < 0 by omega)]
    refine iteF (iteF ?_)
    exact (post _ _ ⟨b, c, k3.bag, k3.tabs, _, _, _, _, _, _, _, _, _, _, rfl⟩).1
  · have e7 : V.int (wrI (pNet (W.length + 1) W) 0) = V.int (-1) := by rw [hp]; rfl
    rw [e7]
    refine ⟨_, rfl, _, 0, rfl, rfl, _, rfl, ?_⟩
    rw [decide_eq_false (show ¬ (0 : Int) ≤ -1 by decide)]
    refine iteF ⟨_, rfl, ?_⟩
    refine ⟨_, rfl, _, 0, rfl, rfl, _, rfl, ?_⟩
    rw [decide_eq_false (show ¬ (0 : Int) ≤ -1 by decide)]
    refine iteF (iteF ?_)
    refine ⟨_, rfl, _, 0, rfl, rfl, _, rfl, ?_⟩
    rw [decide_eq_true (show (-1 : Int) < 0 by decide)]
    obtain ⟨x, t1, t2, us, ps, os, hf, hx, h1, hA, h2, pl, ps1, lo, ez⟩ := gd.ex
    refine iteT ⟨_, rfl, tf, _, 0, _, rfl, rfl, SqT.of hf, atI_nat (j := 0) rfl, .str "", .str "", rfl, Eqv.leaf (show Leaf (V.str "") from trivial) 5, fun H1 s1 => ⟨_, rfl, iteT ?_⟩⟩
    have hf := s1 _ _ hf
    have hx := s1 _ _ hx
    have k1 := k0.same s1
    refine ⟨_, rfl, tf, _, 1, _, rfl, rfl, SqT.of hf, atI_nat (j := 1) rfl, x, _, 0, _, rfl, rfl, SqT.of hx, atI_nat (j := 0) rfl, _, rfl, tf, _, 1, _, rfl, rfl, SqT.of hf, atI_nat (j := 1) rfl, x, _, 1, _, rfl, rfl, SqT.of hx, atI_nat (j := 1) rfl, ?_⟩
    refine ⟨t1, t2, us, ps, os, rfl, SqT.of (s1 _ _ h1), hA.mono fun _ _ z => z.tups (Same.tups s1), pl, ps1, .inl (SqT.of (s1 _ _ h2)), lo, fun H2 s2 => ⟨_, rfl, ?_⟩⟩
    have k2 := k1.same s2
    rw [← ez]
    refine ⟨.str z, .str z, rfl, Eqv.leaf (show Leaf (V.str z) from trivial) 5, fun H3 s3 => ⟨_, rfl, iteF ?_⟩⟩
    have k3 := k2.same s3
    exact (post _ _ ⟨b, c, k3.bag, k3.tabs, _, _, _, _, _, _, _, _, _, _, rfl⟩).1
end
end
end Un
namespace Un
open PySem L2 TL
section
variable {P : Program} {w : World} {K : PySem.W.Frag} {mg : Str → Option Value} {base : Heap}
open XV
/-- no text -/
inductive OddX (H : Hp) : V → Prop where
  | non : OddX H .non
  | int {i : Int} : OddX H (.int i)
  | bl {x : Bool} : OddX H (.bl x)
  | lst {a : Addr} {ys : List V} : H a = some (.lst ys) → OddX H (.ref a)
  | tup {a : Addr} {ys : List V} : H a = some (.tup ys) → OddX H (.ref a)
theorem OddX.ext {H H' : Hp} {v : V} (h : OddX H v) (e : LamX.ExtN H H') : OddX H' v := by
  cases h with
  | non => exact .non
  | int => exact .int
  | bl => exact .bl
  | lst h => exact .lst (e _ _ h fun _ z => nomatch z)
  | tup h => exact .tup (e _ _ h fun _ z => nomatch z)
theorem OddX.ty {H : Hp} {v : V} (h : OddX H v) : ∃ t, TyX K H v (.type t) ∧ kitB t "str" = some false := by
  cases h with
  | non => exact ⟨"NoneType", .base .non, by decide +kernel⟩
  | int => exact ⟨"int", .base (.int _), by decide +kernel⟩
  | bl => exact ⟨"bool", .base (.bl _), by decide +kernel⟩
  | lst h => exact ⟨"list", .base (.lst h), by decide +kernel⟩
  | tup h => exact ⟨"tuple", .base (.tup h), by decide +kernel⟩
theorem ToldE.wr {H : Hp} {t q k : Nat} {xs ys : List V} (h : ToldE H t k) (hq : H q = some (.lst xs)) : ToldE (upd H q (.lst ys)) t k := by
  obtain ⟨t1, h1, h2⟩ := h
  exact ⟨t1, by rw [upd_ne (ne_of h1 hq (by intro z; cases z))]; exact h1, by rw [upd_ne (ne_of h2 hq (by intro z; cases z))]; exact h2⟩
theorem Tabs_wr {T : List (Addr × Str)} {H : Hp} {q : Addr} {xs : List V} (hq : H q = some (.lst xs)) (t : LamX.Tabs T H) (ys : List V) : LamX.Tabs T (upd H q (.lst ys)) := fun p hp => by
  obtain ⟨ps, h1, h2, h3⟩ := t p hp
  refine ⟨ps, by rw [upd_ne (ne_of h1 hq (by intro z; cases z))]; exact h1, h2, fun pos cv hc => ?_⟩
  obtain ⟨d, e1, e2⟩ := h3 pos cv hc
  exact ⟨d, e1, by rw [upd_ne (ne_of e2 hq (by intro z; cases z))]; exact e2⟩
theorem told_all : ∀ {rs : List Addr} {H : Hp} {td t1 : Addr} {k : Nat} (n : Nat), (∀ t ∈ rs, ToldE H t k) → H td = some (.tup [.str "InvalidText", .ref t1]) → H t1 = some (.tup [.int (k : Nat)]) → EqL H (n + 2) (rs.map V.ref) (List.replicate rs.length (.ref td))
  | [], _, _, _, _, _, _, _, _ => trivial
  | r :: rs, H, td, t1, k, n, Z, h3, h4 => by
    obtain ⟨q1, h1, h2⟩ := Z r List.mem_cons_self
    rw [List.map_cons, List.length_cons, List.replicate_succ]
    exact ⟨eqv_told n h1 h2 h3 h4 (by show 1 ≤ 2; decide) (fun z hz => by rw [List.mem_singleton.mp hz]; exact trivial), told_all n (fun t ht => Z t (List.mem_cons_of_mem _ ht)) h3 h4⟩
theorem net_none : pNet 2 ([""] : List Str) = .er 0 := by
  rw [pNet_no (R := [""]) (fun e => absurd (V.str.inj (show V.str "" = V.str ">" from e)) (by decide +kernel)), pPart_cons, show nameB "" = false by decide +kernel]
  rfl
def spLawT (K : PySem.W.Frag) (P0 : Addr) : Sp := fun vs H Q _ => ∃ (a : Addr) (ns : List Int), vs = [.ref a] ∧ SqL K H a (ns.map V.int) ∧ ns.length ≤ 63 ∧ H P0 = some (.tbl #[]) ∧ ∀ H', Q (.bl true) H'
theorem ok_law {CN CT g ff U M' NL f c0 P0 : Addr} {oc kV doc pm cdw ct : Value} {od an : Option Addr} {osl : Array (Option Value)} {fdF : FuncData} {oc1 kV1 doc1 pm1 ct1 : Value} {od1 an1 : Option Addr} {osl1 : Array (Option Value)}
    (lk : K.lookup f = some ⟨oc1, od1, .func (PySem.W.fnOf "law" "law" (defArgs sLaw) (defBody sLaw) (defScope sLaw) .none kV1 doc1 pm1 an1 (.ref c0) ct1), osl1⟩) (hcd : PySem.W.codeIn K (.ref c0) "law" = true) (L : LawD P w K mg base CN CT g ff U M' NL oc kV doc pm cdw ct od an osl fdF) (TB : LamX.TabB base mg c0 P0) :
    FnOk P w K mg base CX0 11 f (PySem.W.fnOf "law" "law" (defArgs sLaw) (defBody sLaw) (defScope sLaw) .none kV1 doc1 pm1 an1 (.ref c0) ct1) ["_law_script"] (spLawT K P0) := by
  refine fn_of lk hcd scLaw (fun vs H Q E h => ?_) (fun A outer s H0 vs Q E hr h => ?_)
  · obtain ⟨a, ns, rfl, _⟩ := h
    rfl
  obtain ⟨scr, ns, rfl, R, hl, hP0, q⟩ := h
  obtain ⟨T, hT⟩ : ∃ T : TL', T = [(P0, (lawX P w K mg base f (.ref c0) A outer s H0 E).env.qual ++ "<lambda>")] := ⟨_, rfl⟩
  have hr10 : Room 10 (lawX P w K mg base f (.ref c0) A outer s H0 E).A := hr.mono (by decide)
  obtain ⟨t, ht, hq⟩ : SegP (lawX P w K mg base f (.ref c0) A outer s H0 E) 0 (LInv T scr) (LInv T scr) := segA L TB hT hr10 (segB L TB hT hr10 (segC L TB hT hr10 (segD L TB hT hr10 (segE L TB hT hr10 (segF L TB hT hr10 (segG L TB hT hr10 (segH L TB hT hr10)))))))
  have mlen := L.len
  have mrange := L.range
  have mtuple := L.tuple
  obtain ⟨_, _, GBg⟩ := L.GBg
  obtain ⟨_, _, GQ⟩ := L.GQ
  obtain ⟨_, _, DN⟩ := L.DN
  obtain ⟨mcR, prR, gR, fdR, dsR, RDc, SD, bR, dR, okR⟩ := L.read
  refine ⟨_, PSs.nox (pss_cons (ps_set (i := 1) scLaw.nd rfl (by first | exact Or.inl rfl | exact Or.inr rfl) (pe_call GBg.ok (hr.mono (by decide)) (by rfl) GBg.m GBg.kp GBg.b .nil pass0 (pa_cons (pv 0) pa_nil)))
 (pss_cons (ps_for PassesOwn.never rfl (pi_range1 (by rfl) mrange (pa_cons pe_int pa_nil)) (pg_name (i := 2) scLaw.nd rfl (by first | exact Or.inl rfl | exact Or.inr rfl)) ht)
 (pss_cons (ps_set (i := 10) scLaw.nd rfl (by first | exact Or.inl rfl | exact Or.inr rfl) (pe_lst (pa_cons pe_non (pa_cons pe_int (pa_cons pe_bl (pa_cons (pe_lst (pa_cons pe_str pa_nil)) (pa_cons (pe_tup (pa_cons pe_str pa_nil)) pa_nil)))))))
 (pss_cons (ps_setLc (i := 8) (own := [("_law_odd", 11)]) (g := (gName 11)) rfl scLaw.nd rfl rfl (sw_true rfl rfl rfl (by decide +kernel)) (pi_list (pv 10)) (blkOk_by (own := [("_law_odd", 11)]) (N := ["_law_script", "_law_bag_here", "_law_turn", "_law_names_here", "_law_parts_here", "_law_words_here", "_law_text", "_law_wrong", "_law_found", "_law_late", "_law_odds", "_law_odd"]) (sc := defScope sLaw) (by decide +kernel)) (fun _ _ _ _ _ => (pg_name (i := 11) scLaw.nd rfl (by first | exact Or.inl rfl | exact Or.inr rfl) (by first | exact Or.inl rfl | exact Or.inr rfl))) (fun _ _ _ _ _ => pts_nil) (fun _ _ _ _ _ => (LamX.pe_lamcall (T := T) (TT := TWhy K [.ref U, .ref M', .ref NL]) (k := 8) (t := fun E => (tCall (spNetR K CT) [] E (tCons (tVar 11) tNil))) (by rfl) L.mW L.kW L.lkW L.hcW L.bW scWhy rfl (Or.inl rfl) (why_gives (hr.mono (by decide)) L.GFd L.bF L.kF L.mF L.mU L.mM L.mN) TB rfl (by rw [hT]; exact List.mem_singleton.mpr rfl) (fun p hp _ => by rw [hT] at hp; rw [List.mem_singleton.mp hp]; rfl) (hr.mono (by decide)) (LamX.lamS_by (sc := { kind := ScopeKind.function, names := [(".0", NameKind.local), ("_law_odd", NameKind.cell), ("_law_why", NameKind.globalImplicit)], isGenerator := false, isCoroutine := false }) (by decide +kernel)) rfl (fun _ _ _ _ _ => by rfl)
   (fun A outer s H E f c' hr2 => (pe_call DN.ok (hr2.mono (by decide)) (by rfl) DN.m DN.kp DN.b .nil (passes_call (takes_of rfl rfl rfl rfl) fun _ _ _ _ h => h) (pa_cons (pv 11) pa_nil))))))
 (pss_cons (ps_set (i := 8) scLaw.nd rfl (by first | exact Or.inl rfl | exact Or.inr rfl) (pe_op op_cat (pv 8) (pe_lc (own := [("_law_odd", 11)]) (g := (gName 11)) rfl scLaw.nd (pi_list (pv 10)) (blkOk_by (own := [("_law_odd", 11)]) (N := ["_law_script", "_law_bag_here", "_law_turn", "_law_names_here", "_law_parts_here", "_law_words_here", "_law_text", "_law_wrong", "_law_found", "_law_late", "_law_odds", "_law_odd"]) (sc := defScope sLaw) (by decide +kernel)) (fun _ _ _ _ _ => (pg_name (i := 11) scLaw.nd rfl (by first | exact Or.inl rfl | exact Or.inr rfl) (by first | exact Or.inl rfl | exact Or.inr rfl))) (fun _ _ _ _ _ => pts_nil) (fun _ _ _ _ _ => (LamX.pe_lamcall (T := T) (TT := TWhy K [.ref U, .ref M', .ref NL]) (k := 8) (t := fun E => (StaX.tSM CN (spReadB K CT) [.non] E _ (tCons (tVar 11) tNil))) (by rfl) L.mW L.kW L.lkW L.hcW L.bW scWhy rfl (Or.inl rfl) (why_gives (hr.mono (by decide)) L.GFd L.bF L.kF L.mF L.mU L.mM L.mN) TB rfl (by rw [hT]; exact List.mem_singleton.mpr rfl) (fun p hp _ => by rw [hT] at hp; rw [List.mem_singleton.mp hp]; rfl) (hr.mono (by decide)) (LamX.lamS_by (sc := { kind := ScopeKind.function, names := [(".0", NameKind.local), ("_law_odd", NameKind.cell), ("_law_why", NameKind.globalImplicit)], isGenerator := false, isCoroutine := false }) (by decide +kernel)) rfl (fun _ _ _ _ _ => by rfl)
   (fun A outer s H E f c' hr2 => (StaX.pe_smeth (C8.pe_gc (v := .ref CN) (by rfl) ⟨_, L.mN', rfl⟩) RDc SD okR (hr2.mono (by decide)) bR dR (passes_call (takes_of rfl rfl rfl rfl) fun _ _ _ _ h => h) (pa_cons (pv 11) pa_nil))))))))
 (pss_one (ps_ret (pe_and (pe_call GQ.ok (hr.mono (by decide)) (by rfl) GQ.m GQ.kp GQ.b .nil pass0 (pa_cons (pv 8) (pa_cons (pe_op op_rep (pe_lst (pa_cons (pe_tup (pa_cons pe_str (pa_cons (pe_tup (pa_cons pe_int pa_nil)) pa_nil))) pa_nil)) pe_int) pa_nil))) (pe_one (pe_call GQ.ok (hr.mono (by decide)) (by rfl) GQ.m GQ.kp GQ.b .nil pass0 (pa_cons (LamX.pe_lamcall (X := lawX P w K mg base f (.ref c0) A outer s H0 E) (T := T) (TT := TWhy K [.ref U, .ref M', .ref NL]) (k := 8) (t := fun E => (tCall (spNetR K CT) [] E (tCons (tC (.str "")) tNil))) (by rfl) L.mW L.kW L.lkW L.hcW L.bW scWhy rfl (Or.inl rfl) (why_gives (hr.mono (by decide)) L.GFd L.bF L.kF L.mF L.mU L.mM L.mN) TB rfl (by rw [hT]; exact List.mem_singleton.mpr rfl) (fun p hp _ => by rw [hT] at hp; rw [List.mem_singleton.mp hp]) (hr.mono (by decide)) (LamX.lamS_by (sc := defScope sLaw) (by decide +kernel)) rfl (fun _ _ _ _ _ => by rfl)
   (fun A outer s H E f c' hr2 => (pe_call DN.ok (hr2.mono (by decide)) (by rfl) DN.m DN.kp DN.b .nil (passes_call (takes_of rfl rfl rfl rfl) fun _ _ _ _ h => h) (pa_cons pe_str pa_nil)))) (pa_cons (pe_tup (pa_cons pe_str (pa_cons (pe_tup (pa_cons pe_int pa_nil)) pa_nil))) pa_nil)))))))))))), ?_⟩
  refine ⟨_, rfl, scr, ns, rfl, R, hl, fun b c H1 s1 hb hc B => ?_⟩
  have t1 : LamX.Tabs T H1 := fun p hp => by
    rw [hT] at hp
    rw [List.mem_singleton.mp hp]
    exact LamX.TabS.nil (s1 _ _ hP0)
  refine ⟨5, rfl, by decide, by decide, ?_⟩
  refine for_it (walk_range (lo := 0)) (fun i σ H2 => LInv T scr σ H2) ⟨b, c, B, t1, none, none, none, none, none, none, none, none, none, none, rfl⟩ (fun _ _ _ _ _ => trivial) ?_ ?_
  · rintro i v σ H2 H3 hi ⟨b, c, B, tb, v2, v3, v4, v5, v6, v7, v8, v9, v10, v11, rfl⟩ ⟨rfl, rfl⟩
    exact hq _ _ H3 ⟨b, c, B, tb, _, _, _, _, _, _, _, _, _, _, rfl⟩ fun _ _ z => ⟨z, z⟩
  rintro σ H2 ⟨b, c, B, tb, v2, v3, v4, v5, v6, v7, v8, v9, v10, v11, rfl⟩
  refine ⟨(by show 1 ≤ sizeLine; decide), fun la hla => ?_⟩
  have s3 := same_upd hla (.lst [V.str "a"])
  have gl : upd H2 la (.lst [V.str "a"]) la = some (.lst [V.str "a"]) := upd_same
  generalize upd H2 la (.lst [V.str "a"]) = H3 at s3 gl  ⊢
  have tb := tb.ext s3
  refine ⟨(by show 1 ≤ sizeLine; decide), fun ta hta => ?_⟩
  have s4 := same_upd hta (.tup [V.str "> a"])
  have gt : upd H3 ta (.tup [V.str "> a"]) ta = some (.tup [V.str "> a"]) := upd_same
  have gl := s4 _ _ gl
  generalize upd H3 ta (.tup [V.str "> a"]) = H4 at s4 gt gl ⊢
  have tb := tb.ext s4
  refine ⟨(by show 5 ≤ sizeLine; decide), fun lo hlo => ?_⟩
  have s5 := same_upd hlo (.lst [V.non, V.int 3, V.bl true, V.ref la, V.ref ta])
  have go : upd H4 lo (.lst [V.non, V.int 3, V.bl true, V.ref la, V.ref ta]) lo = some (.lst [V.non, V.int 3, V.bl true, V.ref la, V.ref ta]) := upd_same
  have gl := s5 _ _ gl
  have gt := s5 _ _ gt
  generalize upd H4 lo (.lst [V.non, V.int 3, V.bl true, V.ref la, V.ref ta]) = H5 at s5 go gl gt ⊢
  have tb := tb.ext s5
  have od : ∀ v ∈ [V.non, V.int 3, V.bl true, V.ref la, V.ref ta], OddX H5 v := fun v hv => by
    simp only [List.mem_cons, List.not_mem_nil, or_false] at hv
    rcases hv with rfl | rfl | rfl | rfl | rfl
    · exact .non
    · exact .int
    · exact .bl
    · exact .lst gl
    · exact .tup gt
  refine ⟨_, rfl, lo, rfl, ⟨_, SqL.of go⟩, fun m hm => ?_⟩
  refine lc_it (walk_list (K := K) (xs := [V.non, V.int 3, V.bl true, V.ref la, V.ref ta])) (fun i H2 => LamX.ExtN H5 H2 ∧ LamX.Tabs T H2 ∧ ∃ rs : List Addr, rs.length = i ∧ H2 m = some (.lst (rs.map V.ref)) ∧ ∀ t ∈ rs, ToldE H2 t 0) ⟨LamX.ExtN.of (same_upd hm _), tb.ext (same_upd hm _), [], rfl, upd_same, fun t ht => nomatch ht⟩ (fun i H2 _ h => SqL.of (h.1 _ _ go fun _ z => nomatch z)) ?_ ?_
  · rintro i v H2 H3' hi ⟨e2, tb2, rs, rl, h2, Z⟩ ⟨rfl, hz⟩
    have ov := (od v (List.mem_of_getElem? hz)).ext e2
    refine ⟨rfl, tb2, fun H4' ext tabs4 => ?_⟩
    obtain ⟨ty, ty1, ty2⟩ := (ov.ext ext).ty (K := K)
    have h2' := ext _ _ h2 (fun _ z => nomatch z)
    have e4 := e2.trans ext
    refine ⟨_, rfl, .inr (.inr ⟨v, ty, rfl, ty1, ty2, fun d' H6 s6 hd hd' => ⟨"InvalidText", [.int ((0 : Nat) : Int)], ⟨CT, d', _, rfl, L.erT.xf, L.erT.at_, rfl, hd', rfl, .cInvalidText rfl⟩, L.erT.ex, fun t2 t1 H7 s7 ht2 ht1 ht2' => ?_⟩⟩)⟩
    have s47 := s6.trans s7
    have h7 := s47 _ _ h2'
    have eA := e4.trans (LamX.ExtN.of s47)
    refine ⟨_, h7, small1000 (by rw [List.length_map, rl]; have : i < 5 := hi; omega), fun o ob hb1 hb2 => ?_, Tabs_wr h7 (tabs4.ext s47) _, rs ++ [t2], by rw [List.length_append, rl]; rfl, by rw [upd_same, List.map_append]; rfl, fun t ht => ?_⟩
    · rw [upd_ne (ne_of_none hb1 hm)]; exact eA _ _ hb1 hb2
    · rcases List.mem_append.mp ht with ht | ht
      · exact (((Z t ht).ext ext).same s47).wr h7
      · rw [List.mem_singleton.mp ht]
        exact ToldE.wr ⟨t1, ht2', ht1⟩ h7
  rintro H6 ⟨e6, tb, rs, rl, hm6, Z⟩
  have go := e6 _ _ go (fun _ z => nomatch z)
  have od : ∀ v ∈ [V.non, V.int 3, V.bl true, V.ref la, V.ref ta], OddX H6 v := fun v hv => (od v hv).ext e6
  refine ⟨_, rfl, _, rfl, lo, rfl, ⟨_, SqL.of go⟩, fun m2 hm2 => ?_⟩
  refine lc_it (walk_list (K := K) (xs := [V.non, V.int 3, V.bl true, V.ref la, V.ref ta])) (fun i H2 => LamX.ExtN H6 H2 ∧ LamX.Tabs T H2 ∧ ∃ rs : List Addr, rs.length = i ∧ H2 m2 = some (.lst (rs.map V.ref)) ∧ ∀ t ∈ rs, ToldE H2 t 0) ⟨LamX.ExtN.of (same_upd hm2 _), tb.ext (same_upd hm2 _), [], rfl, upd_same, fun t ht => nomatch ht⟩ (fun i H2 _ h => SqL.of (h.1 _ _ go fun _ z => nomatch z)) ?_ ?_
  · rintro i v H2 H3' hi ⟨e2, tb2, rs, rl, h2, Z⟩ ⟨rfl, hz⟩
    have ov := (od v (List.mem_of_getElem? hz)).ext e2
    refine ⟨rfl, tb2, fun H4' ext tabs4 => ?_⟩
    obtain ⟨ty, ty1, ty2⟩ := (ov.ext ext).ty (K := K)
    have h2' := ext _ _ h2 (fun _ z => nomatch z)
    have e4 := e2.trans ext
    refine ⟨rfl, _, rfl, v, rfl, .inr ⟨v, ty, rfl, ty1, ty2, fun d' H6 s6 hd hd' => ⟨"InvalidText", [.int ((0 : Nat) : Int)], ⟨CT, d', _, rfl, L.erT.xf, L.erT.at_, rfl, hd', rfl, .cInvalidText rfl⟩, L.erT.ex, fun t2 t1 H7 s7 ht2 ht1 ht2' => ?_⟩⟩⟩
    have s47 := s6.trans s7
    have h7 := s47 _ _ h2'
    have eA := e4.trans (LamX.ExtN.of s47)
    refine ⟨_, h7, small1000 (by rw [List.length_map, rl]; have : i < 5 := hi; omega), fun o ob hb1 hb2 => ?_, Tabs_wr h7 (tabs4.ext s47) _, rs ++ [t2], by rw [List.length_append, rl]; rfl, by rw [upd_same, List.map_append]; rfl, fun t ht => ?_⟩
    · rw [upd_ne (ne_of_none hb1 hm2)]; exact eA _ _ hb1 hb2
    · rcases List.mem_append.mp ht with ht | ht
      · exact (((Z t ht).ext ext).same s47).wr h7
      · rw [List.mem_singleton.mp ht]
        exact ToldE.wr ⟨t1, ht2', ht1⟩ h7
  rintro H7 ⟨e7, tb, rs2, rl2, hm7, Z2⟩
  have rl : rs.length = 5 := rl
  have rl2 : rs2.length = 5 := rl2
  have hm8 := e7 _ _ hm6 (fun _ z => nomatch z)
  have Z' : ∀ t ∈ rs ++ rs2, ToldE H7 t 0 := fun t ht => (List.mem_append.mp ht).elim (fun h => (Z t h).ext e7) (Z2 t)
  refine ⟨m, m2, _, _, rfl, rfl, hm8, hm7, Nat.le_of_lt (small1000 (by rw [List.length_map, List.length_map]; omega)), fun cc hcc => ?_⟩
  rw [← List.map_append]
  have s8 := same_upd hcc (.lst ((rs ++ rs2).map V.ref))
  have g1 : upd H7 cc (.lst ((rs ++ rs2).map V.ref)) cc = some (.lst ((rs ++ rs2).map V.ref)) := upd_same
  generalize upd H7 cc (.lst ((rs ++ rs2).map V.ref)) = H8 at s8 g1  ⊢
  have tb := tb.ext s8
  have Z' : ∀ t ∈ rs ++ rs2, ToldE H8 t 0 := fun t ht => (Z' t ht).same s8
  refine ⟨_, rfl, (by show 1 ≤ sizeLine; decide), fun ti hti => ?_⟩
  have s9 := same_upd hti (.tup [V.int 0])
  have g2 : upd H8 ti (.tup [V.int 0]) ti = some (.tup [V.int 0]) := upd_same
  have g1 := s9 _ _ g1
  generalize upd H8 ti (.tup [V.int 0]) = H9 at s9 g2 g1 ⊢
  have tb := tb.ext s9
  have Z' : ∀ t ∈ rs ++ rs2, ToldE H9 t 0 := fun t ht => (Z' t ht).same s9
  refine ⟨(by show 2 ≤ sizeLine; decide), fun td htd => ?_⟩
  have s10 := same_upd htd (.tup [V.str "InvalidText", V.ref ti])
  have g3 : upd H9 td (.tup [V.str "InvalidText", V.ref ti]) td = some (.tup [V.str "InvalidText", V.ref ti]) := upd_same
  have g1 := s10 _ _ g1
  have g2 := s10 _ _ g2
  generalize upd H9 td (.tup [V.str "InvalidText", V.ref ti]) = H10 at s10 g3 g1 g2 ⊢
  have tb := tb.ext s10
  have Z' : ∀ t ∈ rs ++ rs2, ToldE H10 t 0 := fun t ht => (Z' t ht).same s10
  refine ⟨(by show 1 ≤ sizeLine; decide), fun l1 hl1 => ?_⟩
  have s11 := same_upd hl1 (.lst [V.ref td])
  have g4 : upd H10 l1 (.lst [V.ref td]) l1 = some (.lst [V.ref td]) := upd_same
  have g1 := s11 _ _ g1
  have g2 := s11 _ _ g2
  have g3 := s11 _ _ g3
  generalize upd H10 l1 (.lst [V.ref td]) = H11 at s11 g4 g1 g2 g3 ⊢
  have tb := tb.ext s11
  have Z' : ∀ t ∈ rs ++ rs2, ToldE H11 t 0 := fun t ht => (Z' t ht).same s11
  refine ⟨l1, 10, _, rfl, rfl, g4, by decide, by decide, (by show 10 ≤ sizeLine; decide), fun fd hfd => ?_⟩
  rw [show (List.replicate (10 : Int).toNat [V.ref td]).flatten = List.replicate 10 (V.ref td) from rfl]
  have s12 := same_upd hfd (.lst (List.replicate 10 (V.ref td)))
  have g5 : upd H11 fd (.lst (List.replicate 10 (V.ref td))) fd = some (.lst (List.replicate 10 (V.ref td))) := upd_same
  have g1 := s12 _ _ g1
  have g2 := s12 _ _ g2
  have g3 := s12 _ _ g3
  generalize upd H11 fd (.lst (List.replicate 10 (V.ref td))) = H12 at s12 g5 g1 g2 g3 ⊢
  have tb := tb.ext s12
  have Z' : ∀ t ∈ rs ++ rs2, ToldE H12 t 0 := fun t ht => (Z' t ht).same s12
  have ta10 := told_all (k := 0) 2 Z' g3 g2
  rw [show (rs ++ rs2).length = 10 by rw [List.length_append]; omega] at ta10
  refine ⟨.ref cc, .ref fd, rfl, eqv_lst g1 g5 ta10 (by rw [List.length_map, List.length_append]; omega), fun H13 s13 => ?_⟩
  refine ⟨_, rfl, iteT ?_⟩
  refine ⟨tb.ext s13, fun H14 ext tabs => ?_⟩
  have hs0 : Txt.split "" " " = ([""] : List Str) := by decide +kernel
  refine .inr (.inl ⟨"", 0, rfl, by decide +kernel, by rw [hs0]; decide, by rw [hs0]; exact fun z hz => by rw [List.mem_singleton.mp hz]; exact .lit (by decide +kernel), by rw [hs0]; exact net_none, fun d' H15 s15 hd hd' => ⟨"InvalidText", [.int ((0 : Nat) : Int)], ⟨CT, d', _, rfl, L.erT.xf, L.erT.at_, rfl, hd', rfl, .cInvalidText rfl⟩, L.erT.ex, fun t2 t1' H16 s16 ht2 ht1 ht2' => ?_⟩⟩)
  refine ⟨(by show 1 ≤ sizeLine; decide), fun u1 hu1 => ?_⟩
  have s17 := same_upd hu1 (.tup [V.int 0])
  have g6 : upd H16 u1 (.tup [V.int 0]) u1 = some (.tup [V.int 0]) := upd_same
  have ht1 := s17 _ _ ht1
  have ht2' := s17 _ _ ht2'
  generalize upd H16 u1 (.tup [V.int 0]) = H17 at s17 g6 ht1 ht2' ⊢
  refine ⟨(by show 2 ≤ sizeLine; decide), fun u2 hu2 => ?_⟩
  have s18 := same_upd hu2 (.tup [V.str "InvalidText", V.ref u1])
  have g7 : upd H17 u2 (.tup [V.str "InvalidText", V.ref u1]) u2 = some (.tup [V.str "InvalidText", V.ref u1]) := upd_same
  have ht1 := s18 _ _ ht1
  have ht2' := s18 _ _ ht2'
  have g6 := s18 _ _ g6
  generalize upd H17 u2 (.tup [V.str "InvalidText", V.ref u1]) = H18 at s18 g7 ht1 ht2' g6 ⊢
  exact ⟨.ref t2, .ref u2, rfl, eqv_told 3 ht2' ht1 g7 g6 (by show 1 ≤ 2; decide) (fun z hz => by rw [List.mem_singleton.mp hz]; exact trivial), fun H19 _ => q H19⟩
end
end Un
namespace Un
open PySem L2 TL
section
variable {P : Program} {w : World} {K : PySem.W.Frag} {mg : Str → Option Value} {base : Heap}
/-! ### the classes as the top has made them -/
section
variable {C D N : Addr} {nm q : Str} {bs bm sub : List Value} {sn : List Str} {ab : Bool} {col : Option Bool} {dd : Option Addr} {k0 k1 k2 k3 k5 : Option Value} {nid : String}
theorem cl_cls (l : K.lookup C = some (excClassObj nm q C N bs bm true sn sub ab col dd k0 k1 k2 k3 k5 nid)) : PySem.W.clsIn K C = some { name := nm, bases := bs, mro := .ref C :: bm, ns := N, qualname := q, hasDict := true, slotNames := sn, subclasses := sub, abstract := ab, collection := col, hasDel := false } := by
  unfold PySem.W.clsIn; rw [l] <;> rfl
theorem cl_some (l : K.lookup C = some (excClassObj nm q C N bs bm true sn sub ab col dd k0 k1 k2 k3 k5 nid)) : (PySem.W.clsIn K C).isSome = true := by rw [cl_cls l]; rfl
theorem cl_dict (l : K.lookup C = some (excClassObj nm q C N bs bm true sn sub ab col dd k0 k1 k2 k3 k5 nid)) : PySem.W.hasDictIn K C = true := by unfold PySem.W.hasDictIn; rw [cl_cls l]; rfl
theorem cl_type (l : K.lookup C = some (excClassObj nm q C N bs bm true sn sub ab col dd k0 k1 k2 k3 k5 nid)) : PySem.W.typeIn K (.ref C) = some (.type "type") := by
  show (K.lookup C).map (·.cls) = _
  rw [l]; rfl
theorem cl_mro (l : K.lookup C = some (excClassObj nm q C N bs bm true sn sub ab col dd k0 k1 k2 k3 k5 nid)) (b : Value) : PySem.W.mroIn K C b = some ((Value.ref C :: bm).contains b) := by
  unfold PySem.W.mroIn; rw [cl_cls l]; rfl
end
/-- what a class of the errors is, as the top has written it -/
def CF (K : PySem.W.Frag) (C : Addr) (bm : List Value) (nid : String) (attrs : List Str) : Prop :=
  (∃ nm q N bs sn sub ab col dd k0 k1 k2 k3 k5, K.lookup C = some (excClassObj nm q C N bs bm true sn sub ab col dd k0 k1 k2 k3 k5 nid)) ∧ PySem.W.findIn K (.ref C) "__getattribute__" = some (some (.builtin "BaseException.__getattribute__")) ∧ PySem.W.findIn K (.ref C) "__getattr__" = some none ∧
  PySem.W.findIn K (.ref C) "__class__" = some (some (.builtin "object.__class__")) ∧ PySem.W.findIn K (.ref C) "code" = some none ∧ (∀ f ∈ attrs, PySem.W.findIn K (.ref C) f = some none)
def CX (K : PySem.W.Frag) (C f : Addr) (x qn : Str) (st : Stmt) (bm : List Value) (nid : String) (attrs : List Str) : Prop :=
  PySem.W.nsIn K mainGlobals x = some (some (.ref C)) ∧ CF K C bm nid attrs ∧ PySem.W.findIn K (.ref C) "__setattr__" = some (some (.builtin "object.__setattr__")) ∧ PySem.W.keepIn K (.ref C) = true ∧ PySem.W.findIn K (.ref C) "__init__" = some (some (.ref f)) ∧
  PySem.W.typeIn K (.ref f) = some (.type "function") ∧ ∃ fd, Fun K "__init__" qn st f fd
section
variable {C f N : Addr} {x qn nm q : Str} {st : Stmt} {bs bm sub : List Value} {sn : List Str} {ab : Bool} {col : Option Bool} {dd od an : Option Addr} {k0 k1 k2 k3 k5 : Option Value} {nid : String} {g h : Str} {oc kV doc pm cd ct : Value} {osl : Array (Option Value)}
theorem cx0 (a1 : PySem.W.nsIn K mainGlobals x = some (some (.ref C))) (a2 : K.lookup C = some (excClassObj nm q C N bs bm true sn sub ab col dd k0 k1 k2 k3 k5 nid)) (a3 : PySem.W.findIn K (.ref C) "__getattribute__" = some (some (.builtin "BaseException.__getattribute__"))) (a4 : PySem.W.findIn K (.ref C) "__getattr__" = some none)
    (a5 : PySem.W.findIn K (.ref C) "__class__" = some (some (.builtin "object.__class__"))) (a6 : PySem.W.findIn K (.ref C) "code" = some none) (a7 : PySem.W.findIn K (.ref C) "__setattr__" = some (some (.builtin "object.__setattr__"))) (a8 : PySem.W.keepIn K (.ref C) = true) (a9 : PySem.W.findIn K (.ref C) "__init__" = some (some (.ref f)))
    (b1 : PySem.W.typeIn K (.ref f) = some (.type "function")) (b2 : K.lookup f = some ⟨oc, od, .func (PySem.W.fnOf "__init__" qn (defArgs st) (defBody st) (defScope st) .none kV doc pm an cd ct), osl⟩) (b3 : PySem.W.codeIn K cd qn = true) (b4 : PySem.W.keepIn K (.ref f) = true) : CX K C f x qn st bm nid [] :=
  ⟨a1, ⟨⟨_, _, _, _, _, _, _, _, _, _, _, _, _, _, a2⟩, a3, a4, a5, a6, fun f hf => nomatch hf⟩, a7, a8, a9, b1, _, fun_mk (st := st) b2 b3 b4⟩
theorem cx1 (c : CX K C f x qn st bm nid []) (d1 : PySem.W.findIn K (.ref C) g = some none) : CX K C f x qn st bm nid [g] := by
  obtain ⟨a1, ⟨a2, a3, a4, a5, a6, _⟩, r⟩ := c
  exact ⟨a1, ⟨a2, a3, a4, a5, a6, fun f hf => by rw [List.mem_singleton.mp hf]; exact d1⟩, r⟩
theorem cx2 (c : CX K C f x qn st bm nid []) (d1 : PySem.W.findIn K (.ref C) g = some none) (d2 : PySem.W.findIn K (.ref C) h = some none) : CX K C f x qn st bm nid [g, h] := by
  obtain ⟨a1, ⟨a2, a3, a4, a5, a6, _⟩, r⟩ := c
  exact ⟨a1, ⟨a2, a3, a4, a5, a6, fun f hf => by
    rcases List.mem_cons.mp hf with e | hf
    · rw [e]; exact d1
    · rw [List.mem_singleton.mp hf]; exact d2⟩, r⟩
end
theorem CF.oex {C : Addr} {bm tail : List Value} {B nid iid : String} {attrs : List Str} (c : CF K C bm nid attrs) (FB : ExcBaseFacts B nid iid tail) (TO : XV.TailOk tail) (hb : XV.refsT tail bm = true) (hbe : bm.contains (.type "BaseException") = true)
    (sa : PySem.W.findIn K (.ref C) "__setattr__" = some (some (.builtin "object.__setattr__"))) (kC : PySem.W.keepIn K (.ref C) = true) : OexG K C := by
  obtain ⟨⟨nm, q, N, bs, sn, sub, ab, col, dd, k0, k1, k2, k3, k5, l⟩, _⟩ := c
  refine ⟨⟨B, nid, iid, tail, nm, q, N, bs, bm, sn, sub, ab, col, dd, k0, k1, k2, k3, k5, FB, TO, l, hb⟩, sa, ?_, cl_type l, kC⟩
  show PySem.W.mroIn K C _ = _
  rw [cl_mro l, List.contains_cons, hbe, Bool.or_true]
/-! ### what the top has written, the head -/
open XV
theorem all_mk {l : PySem.W.OpenLaw} {w : World} {K : PySem.W.Frag} {h : Heap} {mg : Str → Option Value} {fa : Addr} (X : K.In h) (G : h.Ns mainGlobals mg) (hfa : mg "law" = some (.ref fa))
    {f1 : Addr}
    {od1 an1 : Option Addr} {sl1 : Array (Option Value)} {oc1 kV1 dc1 pm1 cd1 ct1 : Value}
    {f2 : Addr}
    {od2 an2 : Option Addr} {sl2 : Array (Option Value)} {oc2 kV2 dc2 pm2 cd2 ct2 : Value}
    {f3 : Addr}
    {od3 an3 : Option Addr} {sl3 : Array (Option Value)} {oc3 kV3 dc3 pm3 cd3 ct3 : Value}
    {f4 : Addr}
    {od4 an4 : Option Addr} {sl4 : Array (Option Value)} {oc4 kV4 dc4 pm4 cd4 ct4 : Value}
    {f5 : Addr}
    {od5 an5 : Option Addr} {sl5 : Array (Option Value)} {oc5 kV5 dc5 pm5 cd5 ct5 : Value}
    {f6 : Addr}
    {od6 an6 : Option Addr} {sl6 : Array (Option Value)} {oc6 kV6 dc6 pm6 cd6 ct6 : Value}
    {f7 : Addr}
    {od7 an7 : Option Addr} {sl7 : Array (Option Value)} {oc7 kV7 dc7 pm7 cd7 ct7 : Value}
    {f8 : Addr}
    {od8 an8 : Option Addr} {sl8 : Array (Option Value)} {oc8 kV8 dc8 pm8 cd8 ct8 : Value}
    {f9 : Addr}
    {od9 an9 : Option Addr} {sl9 : Array (Option Value)} {oc9 kV9 dc9 pm9 cd9 ct9 : Value}
    {f10 : Addr}
    {od10 an10 : Option Addr} {sl10 : Array (Option Value)} {oc10 kV10 dc10 pm10 cd10 ct10 : Value}
    {f11 : Addr}
    {od11 an11 : Option Addr} {sl11 : Array (Option Value)} {oc11 kV11 dc11 pm11 cd11 ct11 : Value}
    {f12 : Addr}
    {od12 an12 : Option Addr} {sl12 : Array (Option Value)} {oc12 kV12 dc12 pm12 cd12 ct12 : Value}
    {f13 : Addr}
    {od13 an13 : Option Addr} {sl13 : Array (Option Value)} {oc13 kV13 dc13 pm13 cd13 ct13 : Value}
    {f14 : Addr}
    {od14 an14 : Option Addr} {sl14 : Array (Option Value)} {oc14 kV14 dc14 pm14 cd14 ct14 : Value}
    {f15 : Addr}
    {od15 an15 : Option Addr} {sl15 : Array (Option Value)} {oc15 kV15 dc15 pm15 cd15 ct15 : Value}
    {f16 : Addr}
    {od16 an16 : Option Addr} {sl16 : Array (Option Value)} {oc16 kV16 dc16 pm16 cd16 ct16 : Value}
    {f17 : Addr}
    {od17 an17 : Option Addr} {sl17 : Array (Option Value)} {oc17 kV17 dc17 pm17 cd17 ct17 : Value}
    {f18 : Addr}
    {od18 an18 : Option Addr} {sl18 : Array (Option Value)} {oc18 kV18 dc18 pm18 cd18 ct18 : Value}
    {f19 : Addr}
    {od19 an19 : Option Addr} {sl19 : Array (Option Value)} {oc19 kV19 dc19 pm19 cd19 ct19 : Value}
    {f20 : Addr}
    {od20 an20 : Option Addr} {sl20 : Array (Option Value)} {oc20 kV20 dc20 pm20 cd20 ct20 : Value}
    {f21 : Addr}
    {od21 an21 : Option Addr} {sl21 : Array (Option Value)} {oc21 kV21 dc21 pm21 cd21 ct21 : Value}
    {f22 : Addr}
    {od22 an22 : Option Addr} {sl22 : Array (Option Value)} {oc22 kV22 dc22 pm22 cd22 ct22 : Value}
    {f23 : Addr}
    {od23 an23 : Option Addr} {sl23 : Array (Option Value)} {oc23 kV23 dc23 pm23 cd23 ct23 : Value}
    {f24 : Addr}
    {od24 an24 : Option Addr} {sl24 : Array (Option Value)} {oc24 kV24 dc24 pm24 cd24 ct24 : Value}
    {f25 : Addr}
    {od25 an25 : Option Addr} {sl25 : Array (Option Value)} {oc25 kV25 dc25 pm25 cd25 ct25 : Value}
    {f26 : Addr}
    {od26 an26 : Option Addr} {sl26 : Array (Option Value)} {oc26 kV26 dc26 pm26 cd26 ct26 : Value}
    {f27 : Addr}
    {od27 an27 : Option Addr} {sl27 : Array (Option Value)} {oc27 kV27 dc27 pm27 cd27 ct27 : Value}
    {f28 : Addr}
    {od28 an28 : Option Addr} {sl28 : Array (Option Value)} {oc28 kV28 dc28 pm28 cd28 ct28 : Value}
    {f29 : Addr}
    {od29 an29 : Option Addr} {sl29 : Array (Option Value)} {oc29 kV29 dc29 pm29 cd29 ct29 : Value}
    {f30 : Addr}
    {od30 an30 : Option Addr} {sl30 : Array (Option Value)} {oc30 kV30 dc30 pm30 cd30 ct30 : Value}
    {f31 : Addr}
    {od31 an31 : Option Addr} {sl31 : Array (Option Value)} {oc31 kV31 dc31 pm31 cd31 ct31 : Value}
    {fl c0 P0 : Addr} {odl anl : Option Addr} {sll : Array (Option Value)} {ocl kVl dcl pml ctl : Value}
    {tk_LETTERS : Tok}
    {tk_LONGEST_NAME : Tok}
    {tk_MOST_FACTOR : Tok}
    {tk_MOST_DELAY : Tok}
    {tk_MOST_TERMS : Tok}
    {tk_MOST_ENDS : Tok}
    {tk_MOST_OUTS : Tok}
    {CW : Addr} {cdtCW : ClassData}
    {fY0 : Addr} {odY0 anY0 : Option Addr} {slY0 : Array (Option Value)} {ocY0 kVY0 dcY0 pmY0 cdY0 ctY0 : Value}
    {fY1 : Addr} {odY1 anY1 : Option Addr} {slY1 : Array (Option Value)} {ocY1 kVY1 dcY1 pmY1 cdY1 ctY1 : Value}
    {fY2 : Addr} {odY2 anY2 : Option Addr} {slY2 : Array (Option Value)} {ocY2 kVY2 dcY2 pmY2 cdY2 ctY2 : Value}
    {fY3 : Addr} {odY3 anY3 : Option Addr} {slY3 : Array (Option Value)} {ocY3 kVY3 dcY3 pmY3 cdY3 ctY3 : Value}
    {fY4 : Addr} {odY4 anY4 : Option Addr} {slY4 : Array (Option Value)} {ocY4 kVY4 dcY4 pmY4 cdY4 ctY4 : Value}
    {fY5 : Addr} {odY5 anY5 : Option Addr} {slY5 : Array (Option Value)} {ocY5 kVY5 dcY5 pmY5 cdY5 ctY5 : Value}
    {CN : Addr}
    {fRd DRd prR : Addr} {rstR : List Value} {odRd anRd : Option Addr} {slRd : Array (Option Value)} {ocRd dcRd pmRd cdRd ctRd : Value}
    {U MM NL eT CT : Addr}
    (a1 : PySem.W.nsIn K mainGlobals "is_name" = some (some (.ref f1)))
    (l1 : K.lookup f1 = some ⟨oc1, od1, .func (PySem.W.fnOf "is_name" "is_name" (defArgs sIsName) (defBody sIsName) (defScope sIsName) .none kV1 dc1 pm1 an1 cd1 ct1), sl1⟩)
    (c1 : PySem.W.codeIn K cd1 "is_name" = true)
    (k1 : PySem.W.keepIn K (.ref f1) = true)
    (a2 : PySem.W.nsIn K mainGlobals "is_integer" = some (some (.ref f2)))
    (l2 : K.lookup f2 = some ⟨oc2, od2, .func (PySem.W.fnOf "is_integer" "is_integer" (defArgs sIsInteger) (defBody sIsInteger) (defScope sIsInteger) .none kV2 dc2 pm2 an2 cd2 ct2), sl2⟩)
    (c2 : PySem.W.codeIn K cd2 "is_integer" = true)
    (k2 : PySem.W.keepIn K (.ref f2) = true)
    (a3 : PySem.W.nsIn K mainGlobals "is_number" = some (some (.ref f3)))
    (l3 : K.lookup f3 = some ⟨oc3, od3, .func (PySem.W.fnOf "is_number" "is_number" (defArgs sIsNumber) (defBody sIsNumber) (defScope sIsNumber) .none kV3 dc3 pm3 an3 cd3 ct3), sl3⟩)
    (c3 : PySem.W.codeIn K cd3 "is_number" = true)
    (k3 : PySem.W.keepIn K (.ref f3) = true)
    (a4 : PySem.W.nsIn K mainGlobals "words_of_terms" = some (some (.ref f4)))
    (l4 : K.lookup f4 = some ⟨oc4, od4, .func (PySem.W.fnOf "words_of_terms" "words_of_terms" (defArgs sTermsW) (defBody sTermsW) (defScope sTermsW) .none kV4 dc4 pm4 an4 cd4 ct4), sl4⟩)
    (c4 : PySem.W.codeIn K cd4 "words_of_terms" = true)
    (k4 : PySem.W.keepIn K (.ref f4) = true)
    (a5 : PySem.W.nsIn K mainGlobals "words_of_part" = some (some (.ref f5)))
    (l5 : K.lookup f5 = some ⟨oc5, od5, .func (PySem.W.fnOf "words_of_part" "words_of_part" (defArgs sPartW) (defBody sPartW) (defScope sPartW) .none kV5 dc5 pm5 an5 cd5 ct5), sl5⟩)
    (c5 : PySem.W.codeIn K cd5 "words_of_part" = true)
    (k5 : PySem.W.keepIn K (.ref f5) = true)
    (a6 : PySem.W.nsIn K mainGlobals "text_of" = some (some (.ref f6)))
    (l6 : K.lookup f6 = some ⟨oc6, od6, .func (PySem.W.fnOf "text_of" "text_of" (defArgs sText) (defBody sText) (defScope sText) .none kV6 dc6 pm6 an6 cd6 ct6), sl6⟩)
    (c6 : PySem.W.codeIn K cd6 "text_of" = true)
    (k6 : PySem.W.keepIn K (.ref f6) = true)
    (a7 : PySem.W.nsIn K mainGlobals "number_of" = some (some (.ref f7)))
    (l7 : K.lookup f7 = some ⟨oc7, od7, .func (PySem.W.fnOf "number_of" "number_of" (defArgs sNumOf) (defBody sNumOf) (defScope sNumOf) .none kV7 dc7 pm7 an7 cd7 ct7), sl7⟩)
    (c7 : PySem.W.codeIn K cd7 "number_of" = true)
    (k7 : PySem.W.keepIn K (.ref f7) = true)
    (a8 : PySem.W.nsIn K mainGlobals "read_term" = some (some (.ref f8)))
    (l8 : K.lookup f8 = some ⟨oc8, od8, .func (PySem.W.fnOf "read_term" "read_term" (defArgs sReadTerm) (defBody sReadTerm) (defScope sReadTerm) .none kV8 dc8 pm8 an8 cd8 ct8), sl8⟩)
    (c8 : PySem.W.codeIn K cd8 "read_term" = true)
    (k8 : PySem.W.keepIn K (.ref f8) = true)
    (a9 : PySem.W.nsIn K mainGlobals "read_terms" = some (some (.ref f9)))
    (l9 : K.lookup f9 = some ⟨oc9, od9, .func (PySem.W.fnOf "read_terms" "read_terms" (defArgs sReadTerms) (defBody sReadTerms) (defScope sReadTerms) .none kV9 dc9 pm9 an9 cd9 ct9), sl9⟩)
    (c9 : PySem.W.codeIn K cd9 "read_terms" = true)
    (k9 : PySem.W.keepIn K (.ref f9) = true)
    (a10 : PySem.W.nsIn K mainGlobals "read_part" = some (some (.ref f10)))
    (l10 : K.lookup f10 = some ⟨oc10, od10, .func (PySem.W.fnOf "read_part" "read_part" (defArgs sReadPart) (defBody sReadPart) (defScope sReadPart) .none kV10 dc10 pm10 an10 cd10 ct10), sl10⟩)
    (c10 : PySem.W.codeIn K cd10 "read_part" = true)
    (k10 : PySem.W.keepIn K (.ref f10) = true)
    (a11 : PySem.W.nsIn K mainGlobals "read_net" = some (some (.ref f11)))
    (l11 : K.lookup f11 = some ⟨oc11, od11, .func (PySem.W.fnOf "read_net" "read_net" (defArgs sReadNet) (defBody sReadNet) (defScope sReadNet) .none kV11 dc11 pm11 an11 cd11 ct11), sl11⟩)
    (c11 : PySem.W.codeIn K cd11 "read_net" = true)
    (k11 : PySem.W.keepIn K (.ref f11) = true)
    (a12 : PySem.W.nsIn K mainGlobals "_law_bag" = some (some (.ref f12)))
    (l12 : K.lookup f12 = some ⟨oc12, od12, .func (PySem.W.fnOf "_law_bag" "_law_bag" (defArgs sBag) (defBody sBag) (defScope sBag) .none kV12 dc12 pm12 an12 cd12 ct12), sl12⟩)
    (c12 : PySem.W.codeIn K cd12 "_law_bag" = true)
    (k12 : PySem.W.keepIn K (.ref f12) = true)
    (a13 : PySem.W.nsIn K mainGlobals "_law_pull" = some (some (.ref f13)))
    (l13 : K.lookup f13 = some ⟨oc13, od13, .func (PySem.W.fnOf "_law_pull" "_law_pull" (defArgs sPull) (defBody sPull) (defScope sPull) .none kV13 dc13 pm13 an13 cd13 ct13), sl13⟩)
    (c13 : PySem.W.codeIn K cd13 "_law_pull" = true)
    (k13 : PySem.W.keepIn K (.ref f13) = true)
    (a14 : PySem.W.nsIn K mainGlobals "_law_any" = some (some (.ref f14)))
    (l14 : K.lookup f14 = some ⟨oc14, od14, .func (PySem.W.fnOf "_law_any" "_law_any" (defArgs sAny) (defBody sAny) (defScope sAny) .none kV14 dc14 pm14 an14 cd14 ct14), sl14⟩)
    (c14 : PySem.W.codeIn K cd14 "_law_any" = true)
    (k14 : PySem.W.keepIn K (.ref f14) = true)
    (a15 : PySem.W.nsIn K mainGlobals "_law_same" = some (some (.ref f15)))
    (l15 : K.lookup f15 = some ⟨oc15, od15, .func (PySem.W.fnOf "_law_same" "_law_same" (defArgs sSame) (defBody sSame) (defScope sSame) .none kV15 dc15 pm15 an15 cd15 ct15), sl15⟩)
    (c15 : PySem.W.codeIn K cd15 "_law_same" = true)
    (k15 : PySem.W.keepIn K (.ref f15) = true)
    (a16 : PySem.W.nsIn K mainGlobals "_law_why" = some (some (.ref f16)))
    (l16 : K.lookup f16 = some ⟨oc16, od16, .func (PySem.W.fnOf "_law_why" "_law_why" (defArgs sWhy) (defBody sWhy) (defScope sWhy) .none kV16 dc16 pm16 an16 cd16 ct16), sl16⟩)
    (c16 : PySem.W.codeIn K cd16 "_law_why" = true)
    (k16 : PySem.W.keepIn K (.ref f16) = true)
    (a17 : PySem.W.nsIn K mainGlobals "_law_field" = some (some (.ref f17)))
    (l17 : K.lookup f17 = some ⟨oc17, od17, .func (PySem.W.fnOf "_law_field" "_law_field" (defArgs sField) (defBody sField) (defScope sField) .none kV17 dc17 pm17 an17 cd17 ct17), sl17⟩)
    (c17 : PySem.W.codeIn K cd17 "_law_field" = true)
    (k17 : PySem.W.keepIn K (.ref f17) = true)
    (a18 : PySem.W.nsIn K mainGlobals "_law_names" = some (some (.ref f18)))
    (l18 : K.lookup f18 = some ⟨oc18, od18, .func (PySem.W.fnOf "_law_names" "_law_names" (defArgs sNames) (defBody sNames) (defScope sNames) .none kV18 dc18 pm18 an18 cd18 ct18), sl18⟩)
    (c18 : PySem.W.codeIn K cd18 "_law_names" = true)
    (k18 : PySem.W.keepIn K (.ref f18) = true)
    (a19 : PySem.W.nsIn K mainGlobals "_law_mixed" = some (some (.ref f19)))
    (l19 : K.lookup f19 = some ⟨oc19, od19, .func (PySem.W.fnOf "_law_mixed" "_law_mixed" (defArgs sMixed) (defBody sMixed) (defScope sMixed) .none kV19 dc19 pm19 an19 cd19 ct19), sl19⟩)
    (c19 : PySem.W.codeIn K cd19 "_law_mixed" = true)
    (k19 : PySem.W.keepIn K (.ref f19) = true)
    (a20 : PySem.W.nsIn K mainGlobals "_law_term" = some (some (.ref f20)))
    (l20 : K.lookup f20 = some ⟨oc20, od20, .func (PySem.W.fnOf "_law_term" "_law_term" (defArgs sTerm) (defBody sTerm) (defScope sTerm) .none kV20 dc20 pm20 an20 cd20 ct20), sl20⟩)
    (c20 : PySem.W.codeIn K cd20 "_law_term" = true)
    (k20 : PySem.W.keepIn K (.ref f20) = true)
    (a21 : PySem.W.nsIn K mainGlobals "_law_part" = some (some (.ref f21)))
    (l21 : K.lookup f21 = some ⟨oc21, od21, .func (PySem.W.fnOf "_law_part" "_law_part" (defArgs sPart) (defBody sPart) (defScope sPart) .none kV21 dc21 pm21 an21 cd21 ct21), sl21⟩)
    (c21 : PySem.W.codeIn K cd21 "_law_part" = true)
    (k21 : PySem.W.keepIn K (.ref f21) = true)
    (a22 : PySem.W.nsIn K mainGlobals "_law_parts" = some (some (.ref f22)))
    (l22 : K.lookup f22 = some ⟨oc22, od22, .func (PySem.W.fnOf "_law_parts" "_law_parts" (defArgs sParts) (defBody sParts) (defScope sParts) .none kV22 dc22 pm22 an22 cd22 ct22), sl22⟩)
    (c22 : PySem.W.codeIn K cd22 "_law_parts" = true)
    (k22 : PySem.W.keepIn K (.ref f22) = true)
    (a23 : PySem.W.nsIn K mainGlobals "_law_boxes" = some (some (.ref f23)))
    (l23 : K.lookup f23 = some ⟨oc23, od23, .func (PySem.W.fnOf "_law_boxes" "_law_boxes" (defArgs sBoxes) (defBody sBoxes) (defScope sBoxes) .none kV23 dc23 pm23 an23 cd23 ct23), sl23⟩)
    (c23 : PySem.W.codeIn K cd23 "_law_boxes" = true)
    (k23 : PySem.W.keepIn K (.ref f23) = true)
    (a24 : PySem.W.nsIn K mainGlobals "_law_part_words" = some (some (.ref f24)))
    (l24 : K.lookup f24 = some ⟨oc24, od24, .func (PySem.W.fnOf "_law_part_words" "_law_part_words" (defArgs sPW) (defBody sPW) (defScope sPW) .none kV24 dc24 pm24 an24 cd24 ct24), sl24⟩)
    (c24 : PySem.W.codeIn K cd24 "_law_part_words" = true)
    (k24 : PySem.W.keepIn K (.ref f24) = true)
    (a25 : PySem.W.nsIn K mainGlobals "_law_words" = some (some (.ref f25)))
    (l25 : K.lookup f25 = some ⟨oc25, od25, .func (PySem.W.fnOf "_law_words" "_law_words" (defArgs sWords) (defBody sWords) (defScope sWords) .none kV25 dc25 pm25 an25 cd25 ct25), sl25⟩)
    (c25 : PySem.W.codeIn K cd25 "_law_words" = true)
    (k25 : PySem.W.keepIn K (.ref f25) = true)
    (a26 : PySem.W.nsIn K mainGlobals "_law_is_name" = some (some (.ref f26)))
    (l26 : K.lookup f26 = some ⟨oc26, od26, .func (PySem.W.fnOf "_law_is_name" "_law_is_name" (defArgs sIn) (defBody sIn) (defScope sIn) .none kV26 dc26 pm26 an26 cd26 ct26), sl26⟩)
    (c26 : PySem.W.codeIn K cd26 "_law_is_name" = true)
    (k26 : PySem.W.keepIn K (.ref f26) = true)
    (a27 : PySem.W.nsIn K mainGlobals "_law_names_end" = some (some (.ref f27)))
    (l27 : K.lookup f27 = some ⟨oc27, od27, .func (PySem.W.fnOf "_law_names_end" "_law_names_end" (defArgs sNe) (defBody sNe) (defScope sNe) .none kV27 dc27 pm27 an27 cd27 ct27), sl27⟩)
    (c27 : PySem.W.codeIn K cd27 "_law_names_end" = true)
    (k27 : PySem.W.keepIn K (.ref f27) = true)
    (a28 : PySem.W.nsIn K mainGlobals "_law_mix_end" = some (some (.ref f28)))
    (l28 : K.lookup f28 = some ⟨oc28, od28, .func (PySem.W.fnOf "_law_mix_end" "_law_mix_end" (defArgs sMe) (defBody sMe) (defScope sMe) .none kV28 dc28 pm28 an28 cd28 ct28), sl28⟩)
    (c28 : PySem.W.codeIn K cd28 "_law_mix_end" = true)
    (k28 : PySem.W.keepIn K (.ref f28) = true)
    (a29 : PySem.W.nsIn K mainGlobals "_law_part_end" = some (some (.ref f29)))
    (l29 : K.lookup f29 = some ⟨oc29, od29, .func (PySem.W.fnOf "_law_part_end" "_law_part_end" (defArgs sPe) (defBody sPe) (defScope sPe) .none kV29 dc29 pm29 an29 cd29 ct29), sl29⟩)
    (c29 : PySem.W.codeIn K cd29 "_law_part_end" = true)
    (k29 : PySem.W.keepIn K (.ref f29) = true)
    (a30 : PySem.W.nsIn K mainGlobals "_law_wrong_word" = some (some (.ref f30)))
    (l30 : K.lookup f30 = some ⟨oc30, od30, .func (PySem.W.fnOf "_law_wrong_word" "_law_wrong_word" (defArgs sWw) (defBody sWw) (defScope sWw) .none kV30 dc30 pm30 an30 cd30 ct30), sl30⟩)
    (c30 : PySem.W.codeIn K cd30 "_law_wrong_word" = true)
    (k30 : PySem.W.keepIn K (.ref f30) = true)
    (a31 : PySem.W.nsIn K mainGlobals "_law_bent" = some (some (.ref f31)))
    (l31 : K.lookup f31 = some ⟨oc31, od31, .func (PySem.W.fnOf "_law_bent" "_law_bent" (defArgs sBt) (defBody sBt) (defScope sBt) .none kV31 dc31 pm31 an31 cd31 ct31), sl31⟩)
    (c31 : PySem.W.codeIn K cd31 "_law_bent" = true)
    (k31 : PySem.W.keepIn K (.ref f31) = true)
    (al : PySem.W.nsIn K mainGlobals "law" = some (some (.ref fl)))
    (ll : K.lookup fl = some ⟨ocl, odl, .func (PySem.W.fnOf "law" "law" (defArgs sLaw) (defBody sLaw) (defScope sLaw) .none kVl dcl pml anl (.ref c0) ctl), sll⟩)
    (cl : PySem.W.codeIn K (.ref c0) "law" = true)
    (z_isinstance : PySem.W.nsIn K mainGlobals "isinstance" = some none)
    (z_str : PySem.W.nsIn K mainGlobals "str" = some none)
    (z_int : PySem.W.nsIn K mainGlobals "int" = some none)
    (z_bool : PySem.W.nsIn K mainGlobals "bool" = some none)
    (z_len : PySem.W.nsIn K mainGlobals "len" = some none)
    (z_all : PySem.W.nsIn K mainGlobals "all" = some none)
    (z_list : PySem.W.nsIn K mainGlobals "list" = some none)
    (z_tuple : PySem.W.nsIn K mainGlobals "tuple" = some none)
    (z_zip : PySem.W.nsIn K mainGlobals "zip" = some none)
    (z_range : PySem.W.nsIn K mainGlobals "range" = some none)
    (z_enumerate : PySem.W.nsIn K mainGlobals "enumerate" = some none)
    (z_max : PySem.W.nsIn K mainGlobals "max" = some none)
    (e_LETTERS : PySem.W.nsIn K mainGlobals "LETTERS" = some (some (.str letters tk_LETTERS)))
    (e_LONGEST_NAME : PySem.W.nsIn K mainGlobals "LONGEST_NAME" = some (some (.int 4 tk_LONGEST_NAME)))
    (e_MOST_FACTOR : PySem.W.nsIn K mainGlobals "MOST_FACTOR" = some (some (.int 99 tk_MOST_FACTOR)))
    (e_MOST_DELAY : PySem.W.nsIn K mainGlobals "MOST_DELAY" = some (some (.int 4 tk_MOST_DELAY)))
    (e_MOST_TERMS : PySem.W.nsIn K mainGlobals "MOST_TERMS" = some (some (.int 6 tk_MOST_TERMS)))
    (e_MOST_ENDS : PySem.W.nsIn K mainGlobals "MOST_ENDS" = some (some (.int 4 tk_MOST_ENDS)))
    (e_MOST_OUTS : PySem.W.nsIn K mainGlobals "MOST_OUTS" = some (some (.int 4 tk_MOST_OUTS)))
    (a_CW : PySem.W.nsIn K mainGlobals "Words" = some (some (.ref CW)))
    (pgCW : PySem.W.plainGet K CW Str.empty = true)
    (hdCW : PySem.W.hasDictIn K CW = true)
    (poCW : PySem.W.plainOver K CW = true)
    (saCW : PySem.W.findIn K (.ref CW) "__setattr__" = some (some (.builtin "object.__setattr__")))
    (mkCW : PySem.W.makesIn K CW = true)
    (kpCW : PySem.W.keepIn K (.ref CW) = true)
    (ci_CW : PySem.W.clsIn K CW = some cdtCW)
    (noCWwords : PySem.W.findIn K (.ref CW) "words" = some none)
    (noCWat : PySem.W.findIn K (.ref CW) "at" = some none)
    (aY0 : PySem.W.findIn K (.ref CW) "__init__" = some (some (.ref fY0)))
    (nY0 : PySem.W.isFn K (.ref fY0) = true)
    (lY0 : K.lookup fY0 = some ⟨ocY0, odY0, .func (PySem.W.fnOf "__init__" "Words.__init__" (defArgs sWInit) (defBody sWInit) (defScope sWInit) .none kVY0 dcY0 pmY0 anY0 cdY0 ctY0), slY0⟩)
    (cY0 : PySem.W.codeIn K cdY0 "Words.__init__" = true)
    (kY0 : PySem.W.keepIn K (.ref fY0) = true)
    (aY1 : PySem.W.findIn K (.ref CW) "ahead" = some (some (.ref fY1)))
    (nY1 : PySem.W.isFn K (.ref fY1) = true)
    (lY1 : K.lookup fY1 = some ⟨ocY1, odY1, .func (PySem.W.fnOf "ahead" "Words.ahead" (defArgs sAhead) (defBody sAhead) (defScope sAhead) .none kVY1 dcY1 pmY1 anY1 cdY1 ctY1), slY1⟩)
    (cY1 : PySem.W.codeIn K cdY1 "Words.ahead" = true)
    (kY1 : PySem.W.keepIn K (.ref fY1) = true)
    (aY2 : PySem.W.findIn K (.ref CW) "take" = some (some (.ref fY2)))
    (nY2 : PySem.W.isFn K (.ref fY2) = true)
    (lY2 : K.lookup fY2 = some ⟨ocY2, odY2, .func (PySem.W.fnOf "take" "Words.take" (defArgs sTake) (defBody sTake) (defScope sTake) .none kVY2 dcY2 pmY2 anY2 cdY2 ctY2), slY2⟩)
    (cY2 : PySem.W.codeIn K cdY2 "Words.take" = true)
    (kY2 : PySem.W.keepIn K (.ref fY2) = true)
    (aY3 : PySem.W.findIn K (.ref CW) "take_name" = some (some (.ref fY3)))
    (nY3 : PySem.W.isFn K (.ref fY3) = true)
    (lY3 : K.lookup fY3 = some ⟨ocY3, odY3, .func (PySem.W.fnOf "take_name" "Words.take_name" (defArgs sTakeName) (defBody sTakeName) (defScope sTakeName) .none kVY3 dcY3 pmY3 anY3 cdY3 ctY3), slY3⟩)
    (cY3 : PySem.W.codeIn K cdY3 "Words.take_name" = true)
    (kY3 : PySem.W.keepIn K (.ref fY3) = true)
    (aY4 : PySem.W.findIn K (.ref CW) "take_names" = some (some (.ref fY4)))
    (nY4 : PySem.W.isFn K (.ref fY4) = true)
    (lY4 : K.lookup fY4 = some ⟨ocY4, odY4, .func (PySem.W.fnOf "take_names" "Words.take_names" (defArgs sTakeNames) (defBody sTakeNames) (defScope sTakeNames) .none kVY4 dcY4 pmY4 anY4 cdY4 ctY4), slY4⟩)
    (cY4 : PySem.W.codeIn K cdY4 "Words.take_names" = true)
    (kY4 : PySem.W.keepIn K (.ref fY4) = true)
    (aY5 : PySem.W.findIn K (.ref CW) "take_number" = some (some (.ref fY5)))
    (nY5 : PySem.W.isFn K (.ref fY5) = true)
    (lY5 : K.lookup fY5 = some ⟨ocY5, odY5, .func (PySem.W.fnOf "take_number" "Words.take_number" (defArgs sTakeNumber) (defBody sTakeNumber) (defScope sTakeNumber) .none kVY5 dcY5 pmY5 anY5 cdY5 ctY5), slY5⟩)
    (cY5 : PySem.W.codeIn K cdY5 "Words.take_number" = true)
    (kY5 : PySem.W.keepIn K (.ref fY5) = true)
    (uCN : PySem.W.nsIn K mainGlobals "Net" = some (some (.ref CN)))
    (rdR : PySem.W.readsIn K CN (.type "type") = true)
    (gaR : PySem.W.specialIn K (.ref CN) "__getattribute__" = some (some (.builtin "type.__getattribute__")))
    (atR : PySem.W.findCls K (.ref CN) (.type "type") "read" = some (.get (.builtin "staticmethod.__get__") (.ref prR) .none (.ref CN)))
    (rcR : PySem.W.recIn K prR "staticmethod" = some (.ref fRd :: rstR))
    (lRd : K.lookup fRd = some ⟨ocRd, odRd, .func (PySem.W.fnOf "read" "Net.read" (defArgs sN_read) (defBody sN_read) (defScope sN_read) .none (.ref DRd) dcRd pmRd anRd cdRd ctRd), slRd⟩)
    (cRd : PySem.W.codeIn K cdRd "Net.read" = true)
    (kRd : PySem.W.keepIn K (.ref fRd) = true)
    (kwRd : PySem.W.nsIn K DRd "pieces" = some (some .none))
    (uU : PySem.W.nsIn K mainGlobals "UnopenedError" = some (some (.ref U)))
    (uMM : PySem.W.nsIn K mainGlobals "Missing" = some (some (.ref MM)))
    (uNL : PySem.W.nsIn K mainGlobals "NothingLeft" = some (some (.ref NL)))
    (hT : CX K CT eT "InvalidText" "InvalidText.__init__" sEInvalidText (.ref U :: XV.tailVE) "ValueError.__new__" [])
    (noT_word : PySem.W.findIn K (.ref CT) "word" = some none)
    (exT : PySem.W.exmAny K (.ref CT) [.ref U, .ref MM, .ref NL] = some true)
    : ∃ fd : FuncData, (∀ (s : Shared) (v : Value), BindsTo s fd ⟨[v], []⟩ [("_law_script", v)]) ∧ ∀ base : Heap, K.In base → base.Ns mainGlobals mg → LamX.TabB base mg c0 P0 → FnOk l.prog w K mg base CX0 11 fa fd ["_law_script"] (spLawT K P0) := by
  have F1 := fun_mk (st := sIsName) l1 c1 k1
  have m1 := PySem.W.mg_of X G a1
  have b1 := F1.binds (ps := ["value"]) fun _ _ _ _ _ _ us hl => match us, hl with | [_], _ => rfl
  have F2 := fun_mk (st := sIsInteger) l2 c2 k2
  have m2 := PySem.W.mg_of X G a2
  have b2 := F2.binds (ps := ["value"]) fun _ _ _ _ _ _ us hl => match us, hl with | [_], _ => rfl
  have F3 := fun_mk (st := sIsNumber) l3 c3 k3
  have m3 := PySem.W.mg_of X G a3
  have b3 := F3.binds (ps := ["value", "least", "most"]) fun _ _ _ _ _ _ us hl => match us, hl with | [_, _, _], _ => rfl
  have F4 := fun_mk (st := sTermsW) l4 c4 k4
  have m4 := PySem.W.mg_of X G a4
  have b4 := F4.binds (ps := ["terms"]) fun _ _ _ _ _ _ us hl => match us, hl with | [_], _ => rfl
  have F5 := fun_mk (st := sPartW) l5 c5 k5
  have m5 := PySem.W.mg_of X G a5
  have b5 := F5.binds (ps := ["part"]) fun _ _ _ _ _ _ us hl => match us, hl with | [_], _ => rfl
  have F6 := fun_mk (st := sText) l6 c6 k6
  have m6 := PySem.W.mg_of X G a6
  have b6 := F6.binds (ps := ["parts", "outs"]) fun _ _ _ _ _ _ us hl => match us, hl with | [_, _], _ => rfl
  have F7 := fun_mk (st := sNumOf) l7 c7 k7
  have m7 := PySem.W.mg_of X G a7
  have b7 := F7.binds (ps := ["word"]) fun _ _ _ _ _ _ us hl => match us, hl with | [_], _ => rfl
  have F8 := fun_mk (st := sReadTerm) l8 c8 k8
  have m8 := PySem.W.mg_of X G a8
  have b8 := F8.binds (ps := ["words"]) fun _ _ _ _ _ _ us hl => match us, hl with | [_], _ => rfl
  have F9 := fun_mk (st := sReadTerms) l9 c9 k9
  have m9 := PySem.W.mg_of X G a9
  have b9 := F9.binds (ps := ["words"]) fun _ _ _ _ _ _ us hl => match us, hl with | [_], _ => rfl
  have F10 := fun_mk (st := sReadPart) l10 c10 k10
  have m10 := PySem.W.mg_of X G a10
  have b10 := F10.binds (ps := ["words"]) fun _ _ _ _ _ _ us hl => match us, hl with | [_], _ => rfl
  have F11 := fun_mk (st := sReadNet) l11 c11 k11
  have m11 := PySem.W.mg_of X G a11
  have b11 := F11.binds (ps := ["text"]) fun _ _ _ _ _ _ us hl => match us, hl with | [_], _ => rfl
  have F12 := fun_mk (st := sBag) l12 c12 k12
  have m12 := PySem.W.mg_of X G a12
  have b12 := F12.binds (ps := ["_law_script"]) fun _ _ _ _ _ _ us hl => match us, hl with | [_], _ => rfl
  have F13 := fun_mk (st := sPull) l13 c13 k13
  have m13 := PySem.W.mg_of X G a13
  have b13 := F13.binds (ps := ["_law_bag_here", "_law_many"]) fun _ _ _ _ _ _ us hl => match us, hl with | [_, _], _ => rfl
  have F14 := fun_mk (st := sAny) l14 c14 k14
  have m14 := PySem.W.mg_of X G a14
  have b14 := F14.binds (ps := ["_law_bag_here", "_law_things"]) fun _ _ _ _ _ _ us hl => match us, hl with | [_, _], _ => rfl
  have F15 := fun_mk (st := sSame) l15 c15 k15
  have m15 := PySem.W.mg_of X G a15
  have b15 := F15.binds (ps := ["_law_found", "_law_due"]) fun _ _ _ _ _ _ us hl => match us, hl with | [_, _], _ => rfl
  have F16 := fun_mk (st := sWhy) l16 c16 k16
  have m16 := PySem.W.mg_of X G a16
  have b16 := F16.binds (ps := ["_law_ask"]) fun _ _ _ _ _ _ us hl => match us, hl with | [_], _ => rfl
  have F17 := fun_mk (st := sField) l17 c17 k17
  have m17 := PySem.W.mg_of X G a17
  have b17 := F17.binds (ps := ["_law_e"]) fun _ _ _ _ _ _ us hl => match us, hl with | [_], _ => rfl
  have F18 := fun_mk (st := sNames) l18 c18 k18
  have m18 := PySem.W.mg_of X G a18
  have b18 := F18.binds (ps := ["_law_bag_here", "_law_many"]) fun _ _ _ _ _ _ us hl => match us, hl with | [_, _], _ => rfl
  have F19 := fun_mk (st := sMixed) l19 c19 k19
  have m19 := PySem.W.mg_of X G a19
  have b19 := F19.binds (ps := ["_law_bag_here", "_law_things"]) fun _ _ _ _ _ _ us hl => match us, hl with | [_, _], _ => rfl
  have F20 := fun_mk (st := sTerm) l20 c20 k20
  have m20 := PySem.W.mg_of X G a20
  have b20 := F20.binds (ps := ["_law_bag_here", "_law_earlier", "_law_every"]) fun _ _ _ _ _ _ us hl => match us, hl with | [_, _, _], _ => rfl
  have F21 := fun_mk (st := sPart) l21 c21 k21
  have m21 := PySem.W.mg_of X G a21
  have b21 := F21.binds (ps := ["_law_bag_here", "_law_wire", "_law_earlier", "_law_every", "_law_boxes_here"]) fun _ _ _ _ _ _ us hl => match us, hl with | [_, _, _, _, _], _ => rfl
  have F22 := fun_mk (st := sParts) l22 c22 k22
  have m22 := PySem.W.mg_of X G a22
  have b22 := F22.binds (ps := ["_law_bag_here", "_law_wires", "_law_sources", "_law_boxes_here"]) fun _ _ _ _ _ _ us hl => match us, hl with | [_, _, _, _], _ => rfl
  have F23 := fun_mk (st := sBoxes) l23 c23 k23
  have m23 := PySem.W.mg_of X G a23
  have b23 := F23.binds (ps := ["_law_bag_here", "_law_words_here"]) fun _ _ _ _ _ _ us hl => match us, hl with | [_, _], _ => rfl
  have F24 := fun_mk (st := sPW) l24 c24 k24
  have m24 := PySem.W.mg_of X G a24
  have b24 := F24.binds (ps := ["_law_part_here"]) fun _ _ _ _ _ _ us hl => match us, hl with | [_], _ => rfl
  have F25 := fun_mk (st := sWords) l25 c25 k25
  have m25 := PySem.W.mg_of X G a25
  have b25 := F25.binds (ps := ["_law_parts_here", "_law_outs"]) fun _ _ _ _ _ _ us hl => match us, hl with | [_, _], _ => rfl
  have F26 := fun_mk (st := sIn) l26 c26 k26
  have m26 := PySem.W.mg_of X G a26
  have b26 := F26.binds (ps := ["_law_word"]) fun _ _ _ _ _ _ us hl => match us, hl with | [_], _ => rfl
  have F27 := fun_mk (st := sNe) l27 c27 k27
  have m27 := PySem.W.mg_of X G a27
  have b27 := F27.binds (ps := ["_law_words_here", "_law_at", "_law_most"]) fun _ _ _ _ _ _ us hl => match us, hl with | [_, _, _], _ => rfl
  have F28 := fun_mk (st := sMe) l28 c28 k28
  have m28 := PySem.W.mg_of X G a28
  have b28 := F28.binds (ps := ["_law_words_here", "_law_at"]) fun _ _ _ _ _ _ us hl => match us, hl with | [_, _], _ => rfl
  have F29 := fun_mk (st := sPe) l29 c29 k29
  have m29 := PySem.W.mg_of X G a29
  have b29 := F29.binds (ps := ["_law_words_here", "_law_at"]) fun _ _ _ _ _ _ us hl => match us, hl with | [_, _], _ => rfl
  have F30 := fun_mk (st := sWw) l30 c30 k30
  have m30 := PySem.W.mg_of X G a30
  have b30 := F30.binds (ps := ["_law_words_here"]) fun _ _ _ _ _ _ us hl => match us, hl with | [_], _ => rfl
  have F31 := fun_mk (st := sBt) l31 c31 k31
  have m31 := PySem.W.mg_of X G a31
  have b31 := F31.binds (ps := ["_law_bag_here", "_law_words_here", "_law_more"]) fun _ _ _ _ _ _ us hl => match us, hl with | [_, _, _], _ => rfl
  have ml := PySem.W.mg_of X G al
  cases hfa.symm.trans ml
  have m_isinstance := PySem.W.mg_none_of X G z_isinstance
  have m_str := PySem.W.mg_none_of X G z_str
  have m_int := PySem.W.mg_none_of X G z_int
  have m_bool := PySem.W.mg_none_of X G z_bool
  have m_len := PySem.W.mg_none_of X G z_len
  have m_all := PySem.W.mg_none_of X G z_all
  have m_list := PySem.W.mg_none_of X G z_list
  have m_tuple := PySem.W.mg_none_of X G z_tuple
  have m_zip := PySem.W.mg_none_of X G z_zip
  have m_range := PySem.W.mg_none_of X G z_range
  have m_enumerate := PySem.W.mg_none_of X G z_enumerate
  have m_max := PySem.W.mg_none_of X G z_max
  have me_LETTERS := PySem.W.mg_of X G e_LETTERS
  have me_LONGEST_NAME := PySem.W.mg_of X G e_LONGEST_NAME
  have me_MOST_FACTOR := PySem.W.mg_of X G e_MOST_FACTOR
  have me_MOST_DELAY := PySem.W.mg_of X G e_MOST_DELAY
  have me_MOST_TERMS := PySem.W.mg_of X G e_MOST_TERMS
  have me_MOST_ENDS := PySem.W.mg_of X G e_MOST_ENDS
  have me_MOST_OUTS := PySem.W.mg_of X G e_MOST_OUTS
  have m_CW := PySem.W.mg_of X G a_CW
  have ClCW : Cls K CW := ⟨pgCW, hdCW, poCW, saCW⟩
  have FY0 := fun_mk (st := sWInit) lY0 cY0 kY0
  have MY0 : Meth K CW "__init__" fY0 := ⟨aY0, nY0, kY0⟩
  have bY0 := FY0.binds (ps := ["self", "text"]) fun _ _ _ _ _ _ us hl => match us, hl with | [_, _], _ => rfl
  have FY1 := fun_mk (st := sAhead) lY1 cY1 kY1
  have MY1 : Meth K CW "ahead" fY1 := ⟨aY1, nY1, kY1⟩
  have bY1 := FY1.binds (ps := ["self"]) fun _ _ _ _ _ _ us hl => match us, hl with | [_], _ => rfl
  have FY2 := fun_mk (st := sTake) lY2 cY2 kY2
  have MY2 : Meth K CW "take" fY2 := ⟨aY2, nY2, kY2⟩
  have FY3 := fun_mk (st := sTakeName) lY3 cY3 kY3
  have MY3 : Meth K CW "take_name" fY3 := ⟨aY3, nY3, kY3⟩
  have bY3 := FY3.binds (ps := ["self"]) fun _ _ _ _ _ _ us hl => match us, hl with | [_], _ => rfl
  have FY4 := fun_mk (st := sTakeNames) lY4 cY4 kY4
  have MY4 : Meth K CW "take_names" fY4 := ⟨aY4, nY4, kY4⟩
  have bY4 := FY4.binds (ps := ["self", "most"]) fun _ _ _ _ _ _ us hl => match us, hl with | [_, _], _ => rfl
  have FY5 := fun_mk (st := sTakeNumber) lY5 cY5 kY5
  have MY5 : Meth K CW "take_number" fY5 := ⟨aY5, nY5, kY5⟩
  have bY5 := FY5.binds (ps := ["self", "least", "most"]) fun _ _ _ _ _ _ us hl => match us, hl with | [_, _, _], _ => rfl
  have mkW : Mk K CW fY0 := ⟨mkCW, aY0, nY0, kpCW⟩
  have m_CN := PySem.W.mg_of X G uCN
  have kwdRd : KwdV K (.ref DRd) [("pieces", V.non)] := .inr ⟨DRd, rfl, fun q hq => by rw [List.mem_singleton.mp hq]; exact ⟨_, kwRd, rfl⟩⟩
  have FRd : FunD K "read" "Net.read" (defArgs sN_read) (defBody sN_read) (defScope sN_read) [] [("pieces", V.non)] fRd _ := ⟨⟨_, _, _, _, _, _, _, _, _, _, rfl, lRd, cRd, .inl ⟨rfl, rfl⟩, kwdRd⟩, kRd⟩
  obtain ⟨dsRd, dvRd, bRd⟩ := FRd.binds0 (ps := ["text", "pieces"]) 1 (by simp) rfl (fun D doc pm an cdv ct us ks h1 h2 => match us, ks, h1, h2 with | [_], [_], _, _ => ⟨_, _, _, _, _, _, rfl, rfl, rfl⟩)
  have m_U := PySem.W.mg_of X G uU
  have m_MM := PySem.W.mg_of X G uMM
  have m_NL := PySem.W.mg_of X G uNL
  obtain ⟨gTa, gTb, gTs, gTk, gTi, gTt, fdT, GT⟩ := hT
  have TT := gTb.oex F.excBase_ValueError XV.tailVE_ok rfl rfl gTs gTk
  have qT := PySem.W.mg_of X G gTa
  have erT : ErC K [.ref U, .ref MM, .ref NL] CT := ⟨⟨gTb.2.1, gTb.2.2.1, TT.exC, by obtain ⟨_, _, _, _, _, _, _, _, _, _, _, _, _, _, lz⟩ := gTb.1; exact cl_dict lz⟩, fun n hn => by
    simp only [attrsX, List.mem_cons, List.not_mem_nil, or_false] at hn
    rcases hn with rfl | rfl
    · exact gTb.2.2.2.2.1
    · exact noT_word, exT⟩
  refine ⟨PySem.W.fnOf "law" "law" (defArgs sLaw) (defBody sLaw) (defScope sLaw) .none kVl dcl pml anl (.ref c0) ctl, fun s v => .of_eq rfl, fun base _ _ TB => ?_⟩
  have XT : Xr l.prog w K mg base CT 1 eT fdT "InvalidText" ["self", "word"] (spI1 CT "InvalidText" "word") (fun us ws => us ++ ws) := ⟨⟨TT, gTi, gTt, ok_eInvalidText GT TT gTb.2.2.2.2.1 noT_word, qT⟩, Fun.kbn GT 2 [] (fun us ws => us ++ ws) (fun vs zs => vs ++ zs) (fun r rz => r.append rz) fun _ _ _ _ _ _ us ws h1 h2 => match us, ws, h1, h2 with | [_, _], [], _, _ => rfl⟩
  have NT : NameTxt mg := ⟨m_isinstance, m_str, m_int, m_bool, m_len, m_all, ⟨_, me_LETTERS⟩, ⟨_, me_LONGEST_NAME⟩⟩
  have S : SameTxt mg := ⟨m_isinstance, m_list, m_tuple, m_len, m_all, m_zip, m_bool, m_int, m_str⟩
  have WTc : WT K mg CW := ⟨ClCW, noCWwords, noCWat, m_len⟩
  have BB : MT mg := ⟨⟨_, me_MOST_FACTOR⟩, ⟨_, me_MOST_DELAY⟩, ⟨_, me_MOST_TERMS⟩, ⟨_, me_MOST_ENDS⟩, ⟨_, me_MOST_OUTS⟩⟩
  have D1 : Df l.prog w K mg base 1 f1 _ "is_name" ["value"] (spName K) := ⟨ok_isname F1 NT, b1, k1, m1⟩
  have D2 : Df l.prog w K mg base 1 f2 _ "is_integer" ["value"] (spInteger K) := ⟨ok_isinteger F2 NT, b2, k2, m2⟩
  have D3 : Df l.prog w K mg base 2 f3 _ "is_number" ["value", "least", "most"] (spNumber K) := ⟨ok_isnumber F3 D2.ok b2 k2 m2, b3, k3, m3⟩
  have D4 : Df l.prog w K mg base 1 f4 _ "words_of_terms" ["terms"] spTermsW := ⟨ok_termsW F4 m_enumerate m_str, b4, k4, m4⟩
  have D5 : Df l.prog w K mg base 2 f5 _ "words_of_part" ["part"] spPartW := ⟨ok_partW F5 D4, b5, k5, m5⟩
  have D6 : Df l.prog w K mg base 3 f6 _ "text_of" ["parts", "outs"] (spTextT K) := ⟨ok_textT F6 D5, b6, k6, m6⟩
  have D7 : Df l.prog w K mg base 1 f7 _ "number_of" ["word"] spNumOf := ⟨ok_numof F7 m_len m_int m_str, b7, k7, m7⟩
  have DNW : Df l.prog w K mg base 1 f7 _ "number_of" ["word"] spNumW := ⟨ok_numW F7 m_len m_int m_str, b7, k7, m7⟩
  have W1 : Mt l.prog w K mg base CW 1 fY1 _ "ahead" ["self"] (spAhead CW) := ⟨MY1, ok_ahead FY1 WTc, bY1⟩
  have WTK : FnR l.prog w K mg base CX0 2 fY2 (spTake CW) := ok_take FY2 WTc W1
  have W3 : Mt l.prog w K mg base CW 2 fY3 _ "take_name" ["self"] (spTakeName CW) := ⟨MY3, ok_takename FY3 WTc W1 D1, bY3⟩
  have W4 : Mt l.prog w K mg base CW 3 fY4 _ "take_names" ["self", "most"] (spTakeNames CW) := ⟨MY4, ok_takenames FY4 WTc W1 D1 W3 m_tuple, bY4⟩
  have W5 : Mt l.prog w K mg base CW 3 fY5 _ "take_number" ["self", "least", "most"] (spTakeNumber CW) := ⟨MY5, ok_takenumber FY5 WTc W1 D3 D7, bY5⟩
  have WMM : MS l.prog w K mg base CW fY1 fY2 fY3 fY4 fY5 _ _ _ _ := ⟨WTc, W1, WTK, MY2, W3, W4, W5⟩
  have D8 : Df l.prog w K mg base 4 f8 _ "read_term" ["words"] (spReadTerm CW) := ⟨ok_readterm F8 WMM BB, b8, k8, m8⟩
  have D9 : Df l.prog w K mg base 5 f9 _ "read_terms" ["words"] (spReadTerms CW) := ⟨ok_readterms F9 WMM BB D8 m_tuple, b9, k9, m9⟩
  have D10 : Df l.prog w K mg base 6 f10 _ "read_part" ["words"] (spReadPart CW) := ⟨ok_readpart F10 WMM BB D9, b10, k10, m10⟩
  have XTK : FnR l.prog w K mg base (L2.CX l.prog w) 3 fY2 (spTk CW CT) := ok_tk FY2 WTc W1 XT
  have X3 : MtX l.prog w K mg base CW 3 fY3 _ "take_name" ["self"] (spR CW CT pName) := ⟨MY3, ok_tkName FY3 WTc W1 D1 XT, bY3⟩
  have X5 : MtX l.prog w K mg base CW 3 fY5 _ "take_number" ["self", "least", "most"] (spRN CW CT) := ⟨MY5, ok_tkNum FY5 WTc W1 D3 DNW XT, bY5⟩
  have DXT : DfX l.prog w K mg base 4 f8 _ "read_term" ["words"] (spR CW CT pTerm) := ⟨ok_rdTerm F8 WTc W1 X3 X5 MY2 XTK BB, b8, k8, m8⟩
  have DXS : DfX l.prog w K mg base 5 f9 _ "read_terms" ["words"] (spR CW CT pTerms) := ⟨ok_rdTerms F9 WTc W1 MY2 XTK DXT BB m_tuple, b9, k9, m9⟩
  have DXP : DfX l.prog w K mg base 6 f10 _ "read_part" ["words"] (spR CW CT pPart) := ⟨ok_rdPart F10 WTc W1 X3 W4 MY2 XTK DXS BB, b10, k10, m10⟩
  have DXB : DfX l.prog w K mg base 7 f11 _ "read_net" ["text"] (spNetB K CT) := ⟨ok_netBad F11 WTc NT W1 X3 W4 MY2 XTK mkW m_CW (ok_winitR FY0 WTc) bY0 DXP XT BB m_tuple, b11, k11, m11⟩
  have DXN : DfX l.prog w K mg base 7 f11 _ "read_net" ["text"] (spNetR K CT) := ⟨fn_or (ok_readnetX F11 WMM BB NT mkW m_CW (ok_winit FY0 WTc) bY0 D10 m_tuple) DXB.ok, b11, k11, m11⟩
  have okRd := ok_readBad (P := l.prog) (w := w) (base := base) FRd DXB
  have D12 : Df l.prog w K mg base 1 f12 _ "_law_bag" ["_law_script"] (spBag K) := ⟨ok_bag F12 m_len m_list, b12, k12, m12⟩
  have D13 : Df l.prog w K mg base 1 f13 _ "_law_pull" ["_law_bag_here", "_law_many"] spPull := ⟨ok_pull F13 m_len m_int, b13, k13, m13⟩
  have D14 : Df l.prog w K mg base 2 f14 _ "_law_any" ["_law_bag_here", "_law_things"] (spAny K) := ⟨ok_any F14 D13.ok b13 k13 m13 m_len, b14, k14, m14⟩
  have D15 : Df l.prog w K mg base 6 f15 _ "_law_same" ["_law_found", "_law_due"] (spSame 6) := ⟨all_same F15 S b15 m15 6, b15, k15, m15⟩
  have D18 : Df l.prog w K mg base 3 f18 _ "_law_names" ["_law_bag_here", "_law_many"] spNames := ⟨ok_names F18 D13.ok b13 k13 m13 D14.ok b14 k14 m14 m_len m_int m_range, b18, k18, m18⟩
  have D19 : Df l.prog w K mg base 2 f19 _ "_law_mixed" ["_law_bag_here", "_law_things"] (spMixed K) := ⟨ok_mixed F19 D13 m_len, b19, k19, m19⟩
  have D20 : Df l.prog w K mg base 3 f20 _ "_law_term" ["_law_bag_here", "_law_earlier", "_law_every"] spTerm := ⟨ok_term F20 D13 D14 m_max, b20, k20, m20⟩
  have D21 : Df l.prog w K mg base 4 f21 _ "_law_part" partP spPart := ⟨ok_part F21 D13 D14 D20 m_tuple m_range, b21, k21, m21⟩
  have D22 : Df l.prog w K mg base 5 f22 _ "_law_parts" partsP spParts := ⟨ok_parts F22 D21 m_len m_range, b22, k22, m22⟩
  have D23 : Df l.prog w K mg base 3 f23 _ "_law_boxes" ["_law_bag_here", "_law_words_here"] spBoxes := ⟨ok_boxes F23 D14, b23, k23, m23⟩
  have D24 : Df l.prog w K mg base 1 f24 _ "_law_part_words" ["_law_part_here"] spPartW := ⟨ok_PW F24 m_list m_enumerate m_str, b24, k24, m24⟩
  have D25 : Df l.prog w K mg base 2 f25 _ "_law_words" ["_law_parts_here", "_law_outs"] (spWords K) := ⟨ok_words F25 D24 m_list, b25, k25, m25⟩
  have D26 : Df l.prog w K mg base 1 f26 _ "_law_is_name" ["_law_word"] spIsN := ⟨ok_lawName F26 m_len m_all, b26, k26, m26⟩
  have D27 : Df l.prog w K mg base 2 f27 _ "_law_names_end" ["_law_words_here", "_law_at", "_law_most"] spNe := ⟨ok_lawNames F27 D26 m_len m_range, b27, k27, m27⟩
  have D28 : Df l.prog w K mg base 2 f28 _ "_law_mix_end" ["_law_words_here", "_law_at"] (spEnd pTerms) := ⟨ok_lawMix F28 D26 m_len m_range m_str, b28, k28, m28⟩
  have D29 : Df l.prog w K mg base 3 f29 _ "_law_part_end" ["_law_words_here", "_law_at"] (spEnd pPart) := ⟨ok_lawPart F29 D26 D27 D28 m_len, b29, k29, m29⟩
  have D30 : Df l.prog w K mg base 4 f30 _ "_law_wrong_word" ["_law_words_here"] spWw := ⟨ok_lawWrong F30 D27 D29 m_len m_range, b30, k30, m30⟩
  have D31 : Df l.prog w K mg base 3 f31 _ "_law_bent" ["_law_bag_here", "_law_words_here", "_law_more"] spBt := ⟨ok_lawBent F31 D13 D14 m_len m_int, b31, k31, m31⟩
  exact ok_law ll cl ⟨m_len, m_range, m_tuple, m_CN, ⟨_, _, D12⟩, ⟨_, _, D13⟩, ⟨_, _, D14⟩, ⟨_, _, D18⟩, ⟨_, _, D19⟩, ⟨_, _, D23⟩, ⟨_, _, D22⟩, ⟨_, _, D25⟩, ⟨_, _, D31⟩, ⟨_, _, D30⟩, ⟨_, _, D15⟩, ⟨_, _, D6⟩, ⟨_, _, DXN⟩, ⟨.type "type", prR, fRd, _, _, ⟨rdR, gaR⟩, ⟨atR, ⟨_, rcR⟩, kRd⟩, bRd, dvRd, okRd⟩, erT, l16, c16, b16, m16, k16, ok_fieldE F17, b17, k17, m17, m_U, m_MM, m_NL⟩ TB
theorem walk {l : PySem.W.OpenLaw} {q : Program} {loose : List Str} {XP : (Str → Option Value) → Heap → Prop} {YP : World → Heap → Prop} {d : DefRec} {K : Params → PySem.W.Frag} {c0 P0 : Addr} (hn : l.most = some 63) (hdf : d.params.defaults = [])
    (hY : ∀ (w : World) (h : Heap), YP w h → (K w.params).In h) (hT : ∀ (w : World) (h : Heap), YP w h → h.get? P0 = some { cls := .none, data := .fields #[] }) (nT : ∀ P : Params, (K P).lookup P0 = none) (hC : ∀ (w : World) (h : Heap), (K w.params).In h → PySem.W.CodeHd h c0 P0)
    (F : ∀ (w : World) (mg : Str → Option Value) (fa : Addr) (h : Heap), (K w.params).In h → h.Ns mainGlobals mg → mg d.name = some (.ref fa) →
      ∃ fd : FuncData, (∀ (s : Shared) (u : Value), BindsTo s fd ⟨[u], []⟩ [("_law_script", u)]) ∧ ∀ base : Heap, (K w.params).In base → base.Ns mainGlobals mg → LamX.TabB base mg c0 P0 → FnOk l.prog w (K w.params) mg base CX0 11 fa fd ["_law_script"] (spLawT (K w.params) P0)) :
    PySem.W.WalkO q loose XP YP l.row.toRowW d [] (fun f vs => PySem.call f vs) := by
  refine LamX.walk_ofTs (n := 63) (k := 11) (x := "_law_script") (CX := fun _ => CX0) hn (by decide) hdf ⟨rfl, by decide, by decide⟩ hY (fun w mg fa h Y KX G hm => ?_) fun _ _ _ _ _ z => z
  obtain ⟨fd, hb, hF⟩ := F w mg fa h KX G hm
  refine ⟨fd, [(c0, P0)], spLawT (K w.params) P0, fun p hp => ?_, fun p hp => ?_, fun p hp => ?_, hb, fun H a ns hl _ hP hS => ⟨a, ns, rfl, hS, hl, hP (c0, P0) (List.mem_singleton.mpr rfl), fun _ => rfl⟩, fun base hK hN hTB => hF base hK hN (hTB (c0, P0) (List.mem_singleton.mpr rfl))⟩
  · rw [List.mem_singleton.mp hp]
    exact hT w h Y
  · rw [List.mem_singleton.mp hp]
    exact nT w.params
  · rw [List.mem_singleton.mp hp]
    exact hC w h KX
end
end Un
open PySem PySem.W PyProof.Rows
set_option maxRecDepth 100000 in
set_option maxHeartbeats 0 in
theorem PySem.Challenge.cw_unopened_k10_wrong_texts_holds : PySem.Challenge.rw_unopened_k10_wrong_texts.Holds := by
  w_on; o_law; k_head; (case hw => w_witness2)
  k_fill
  refine Un.walk (l := PySem.Challenge.rw_unopened_k10_wrong_texts) (c0 := 766) (P0 := 764) rfl rfl (fun w h Y => PySem.W.km_in_of Y) (fun w h Y => PySem.W.km_tabs_of Y _ (List.mem_singleton.mpr rfl)) (fun P => by kernel_rfl) (fun w h KX => PySem.W.codeHd_of_K (c := 766) (P := 764) KX (by kernel_rfl)) ?F
  case F =>
    intro w mg fa h KX G hmg
    refine' Un.all_mk KX G hmg ?a1 ?l1 ?c1 ?k1 ?a2 ?l2 ?c2 ?k2 ?a3 ?l3 ?c3 ?k3 ?a4 ?l4 ?c4 ?k4 ?a5 ?l5 ?c5 ?k5 ?a6 ?l6 ?c6 ?k6 ?a7 ?l7 ?c7 ?k7 ?a8 ?l8 ?c8 ?k8 ?a9 ?l9 ?c9 ?k9 ?a10 ?l10 ?c10 ?k10 ?a11 ?l11 ?c11 ?k11 ?a12 ?l12 ?c12 ?k12 ?a13 ?l13 ?c13 ?k13 ?a14 ?l14 ?c14 ?k14 ?a15 ?l15 ?c15 ?k15 ?a16 ?l16 ?c16 ?k16 ?a17 ?l17 ?c17 ?k17 ?a18 ?l18 ?c18 ?k18 ?a19 ?l19 ?c19 ?k19 ?a20 ?l20 ?c20 ?k20 ?a21 ?l21 ?c21 ?k21 ?a22 ?l22 ?c22 ?k22 ?a23 ?l23 ?c23 ?k23 ?a24 ?l24 ?c24 ?k24 ?a25 ?l25 ?c25 ?k25 ?a26 ?l26 ?c26 ?k26 ?a27 ?l27 ?c27 ?k27 ?a28 ?l28 ?c28 ?k28 ?a29 ?l29 ?c29 ?k29 ?a30 ?l30 ?c30 ?k30 ?a31 ?l31 ?c31 ?k31 ?al ?ll ?cl ?z_isinstance ?z_str ?z_int ?z_bool ?z_len ?z_all ?z_list ?z_tuple ?z_zip ?z_range ?z_enumerate ?z_max ?e_LETTERS ?e_LONGEST_NAME ?e_MOST_FACTOR ?e_MOST_DELAY ?e_MOST_TERMS ?e_MOST_ENDS ?e_MOST_OUTS ?a_CW ?pgCW ?hdCW ?poCW ?saCW ?mkCW ?kpCW ?ci_CW ?noCWwords ?noCWat ?aY0 ?nY0 ?lY0 ?cY0 ?kY0 ?aY1 ?nY1 ?lY1 ?cY1 ?kY1 ?aY2 ?nY2 ?lY2 ?cY2 ?kY2 ?aY3 ?nY3 ?lY3 ?cY3 ?kY3 ?aY4 ?nY4 ?lY4 ?cY4 ?kY4 ?aY5 ?nY5 ?lY5 ?cY5 ?kY5 ?uCN ?rdR ?gaR ?atR ?rcR ?lRd ?cRd ?kRd ?kwRd ?uU ?uMM ?uNL ?hT ?noT_word ?exT
    (case a1 => k_is)
    (case l1 => k_is)
    (case c1 => k_is)
    (case k1 => k_is)
    (case a2 => k_is)
    (case l2 => k_is)
    (case c2 => k_is)
    (case k2 => k_is)
    (case a3 => k_is)
    (case l3 => k_is)
    (case c3 => k_is)
    (case k3 => k_is)
    (case a4 => k_is)
    (case l4 => k_is)
    (case c4 => k_is)
    (case k4 => k_is)
    (case a5 => k_is)
    (case l5 => k_is)
    (case c5 => k_is)
    (case k5 => k_is)
    (case a6 => k_is)
    (case l6 => k_is)
    (case c6 => k_is)
    (case k6 => k_is)
    (case a7 => k_is)
    (case l7 => k_is)
    (case c7 => k_is)
    (case k7 => k_is)
    (case a8 => k_is)
    (case l8 => k_is)
    (case c8 => k_is)
    (case k8 => k_is)
    (case a9 => k_is)
    (case l9 => k_is)
    (case c9 => k_is)
    (case k9 => k_is)
    (case a10 => k_is)
    (case l10 => k_is)
    (case c10 => k_is)
    (case k10 => k_is)
    (case a11 => k_is)
    (case l11 => k_is)
    (case c11 => k_is)
    (case k11 => k_is)
    (case a12 => k_is)
    (case l12 => k_is)
    (case c12 => k_is)
    (case k12 => k_is)
    (case a13 => k_is)
    (case l13 => k_is)
    (case c13 => k_is)
    (case k13 => k_is)
    (case a14 => k_is)
    (case l14 => k_is)
    (case c14 => k_is)
    (case k14 => k_is)
    (case a15 => k_is)
    (case l15 => k_is)
    (case c15 => k_is)
    (case k15 => k_is)
    (case a16 => k_is)
    (case l16 => k_is)
    (case c16 => k_is)
    (case k16 => k_is)
    (case a17 => k_is)
    (case l17 => k_is)
    (case c17 => k_is)
    (case k17 => k_is)
    (case a18 => k_is)
    (case l18 => k_is)
    (case c18 => k_is)
    (case k18 => k_is)
    (case a19 => k_is)
    (case l19 => k_is)
    (case c19 => k_is)
    (case k19 => k_is)
    (case a20 => k_is)
    (case l20 => k_is)
    (case c20 => k_is)
    (case k20 => k_is)
    (case a21 => k_is)
    (case l21 => k_is)
    (case c21 => k_is)
    (case k21 => k_is)
    (case a22 => k_is)
    (case l22 => k_is)
    (case c22 => k_is)
    (case k22 => k_is)
    (case a23 => k_is)
    (case l23 => k_is)
    (case c23 => k_is)
    (case k23 => k_is)
    (case a24 => k_is)
    (case l24 => k_is)
    (case c24 => k_is)
    (case k24 => k_is)
    (case a25 => k_is)
    (case l25 => k_is)
    (case c25 => k_is)
    (case k25 => k_is)
    (case a26 => k_is)
    (case l26 => k_is)
    (case c26 => k_is)
    (case k26 => k_is)
    (case a27 => k_is)
    (case l27 => k_is)
    (case c27 => k_is)
    (case k27 => k_is)
    (case a28 => k_is)
    (case l28 => k_is)
    (case c28 => k_is)
    (case k28 => k_is)
    (case a29 => k_is)
    (case l29 => k_is)
    (case c29 => k_is)
    (case k29 => k_is)
    (case a30 => k_is)
    (case l30 => k_is)
    (case c30 => k_is)
    (case k30 => k_is)
    (case a31 => k_is)
    (case l31 => k_is)
    (case c31 => k_is)
    (case k31 => k_is)
    (case al => k_is)
    (case ll => k_is)
    (case cl => k_is)
    (case z_isinstance => k_is)
    (case z_str => k_is)
    (case z_int => k_is)
    (case z_bool => k_is)
    (case z_len => k_is)
    (case z_all => k_is)
    (case z_list => k_is)
    (case z_tuple => k_is)
    (case z_zip => k_is)
    (case z_range => k_is)
    (case z_enumerate => k_is)
    (case z_max => k_is)
    (case e_LETTERS => k_is)
    (case e_LONGEST_NAME => k_is)
    (case e_MOST_FACTOR => k_is)
    (case e_MOST_DELAY => k_is)
    (case e_MOST_TERMS => k_is)
    (case e_MOST_ENDS => k_is)
    (case e_MOST_OUTS => k_is)
    (case a_CW => k_is)
    (case pgCW => k_is)
    (case hdCW => k_is)
    (case poCW => k_is)
    (case saCW => k_is)
    (case mkCW => k_is)
    (case kpCW => k_is)
    (case ci_CW => first | k_is | exact rfl | kernel_rfl)
    (case noCWwords => k_is)
    (case noCWat => k_is)
    (case aY0 => k_is)
    (case nY0 => k_is)
    (case lY0 => k_is)
    (case cY0 => k_is)
    (case kY0 => k_is)
    (case aY1 => k_is)
    (case nY1 => k_is)
    (case lY1 => k_is)
    (case cY1 => k_is)
    (case kY1 => k_is)
    (case aY2 => k_is)
    (case nY2 => k_is)
    (case lY2 => k_is)
    (case cY2 => k_is)
    (case kY2 => k_is)
    (case aY3 => k_is)
    (case nY3 => k_is)
    (case lY3 => k_is)
    (case cY3 => k_is)
    (case kY3 => k_is)
    (case aY4 => k_is)
    (case nY4 => k_is)
    (case lY4 => k_is)
    (case cY4 => k_is)
    (case kY4 => k_is)
    (case aY5 => k_is)
    (case nY5 => k_is)
    (case lY5 => k_is)
    (case cY5 => k_is)
    (case kY5 => k_is)
    (case uCN => k_is)
    (case rdR => first | k_is | exact rfl | kernel_rfl)
    (case gaR => first | k_is | exact rfl | kernel_rfl)
    (case atR => first | k_is | exact rfl | kernel_rfl)
    (case rcR => first | k_is | exact rfl | kernel_rfl)
    (case lRd => k_is)
    (case cRd => k_is)
    (case kRd => k_is)
    (case kwRd => k_is)
    (case uU => k_is)
    (case uMM => k_is)
    (case uNL => k_is)
    (case hT => refine' Un.cx0 ?a1 ?a2 ?a3 ?a4 ?a5 ?a6 ?a7 ?a8 ?a9 ?b1 ?b2 ?b3 ?b4; (case a1 => k_is); (case a2 => k_is); (case a3 => k_is); (case a4 => k_is); (case a5 => k_is); (case a6 => k_is); (case a7 => k_is); (case a8 => k_is); (case a9 => k_is); (case b1 => k_is); (case b2 => k_is); (case b3 => k_is); (case b4 => k_is))
    (case noT_word => k_is)
    (case exT => first | k_is | exact rfl | kernel_rfl)
