import PyProof.Rows.All
import Wide.All
import OpenK.AllK
import Wide.FinOn
import KE.KSuper
import HandS.ForMost
import HandS.IsInst
import HandS.Flow
import HandS.Zip
import HandS.Defaults
import HandS.Codes
import HandS.ExcValue
import HandS.ClsMeth
import HandS.Nested
import HandS.MakeKwOnly
import HandS.Star
import HandS.Walk
import HandS.SortKw
import HandS.SortOrd
import HandS.SortRule
import HandS.TupSets
import KE.KDictCopyH
import HandS.Property
import HandS.DictComp
import HandS.Conv
import HandS.More
import HandS.StrMore
import HandS.Text
import KE.GoesMore
import PyProof.EnumFor
import PyProof.WalksMore
import HandS.ExcInit
import HandS.ExcField
import KE.KExcIs
import KE.KExcInit
import HandS.HotCalls
import HandS.Lambda
import HandS.TryOnly
import HandS.SetKeys
import HandS.WordsExc
import KE.GoesEnum
import KE.GoesZip
import KE.GoesNew
import HandS.FStr
import HandS.EndTab
import KE.KLam
import KE.KNestM
import HandS.TupMul
import HandS.Style
import HandS.NoneIn
import PySem.Challenge.RW_unopened_k84_faults_of_uses_in_order
set_option Elab.async false
set_option linter.all false
set_option maxRecDepth 100000
set_option maxHeartbeats 4000000
namespace SupX
open PySem PySem.Spec PyProof.Rows L2 NdefX
/-! a body that is known to be the activation itself: super() is asked there alone -/
structure PEa (X : Cx) (B : List Stmt) (e : Expr) (t : TE) : Prop where
  run : ∀ (pins : List (Addr × Obj)) (s : Shared) (σ : L2.St) (H : Hp) (Q : VK), Inv X pins σ H s → t σ H Q → _root_.PySem.wpAt (model X.prog X.w) X.A (.func B X.env) (eval e X.env) (EP X pins σ Q) X.xe s
structure PSa (X : Cx) (B : List Stmt) (st : Stmt) (t : TS) : Prop where
  run : ∀ (pins : List (Addr × Obj)) (s : Shared) (σ : L2.St) (H : Hp) (D : Ends), Inv X pins σ H s → t D σ H → _root_.PySem.wpAt (model X.prog X.w) X.A (.func B X.env) (exec st X.env) (SP X pins D) X.xe s
structure PSsa (X : Cx) (B : List Stmt) (st : List Stmt) (t : TS) : Prop where
  run : ∀ (pins : List (Addr × Obj)) (s : Shared) (σ : L2.St) (H : Hp) (D : Ends), Inv X pins σ H s → t D σ H → _root_.PySem.wpAt (model X.prog X.w) X.A (.func B X.env) (execs st X.env) (SP X pins D) X.xe s
section
variable {X : Cx} {B : List Stmt} {e : Expr} {te : TE} {st : Stmt} {rest : List Stmt} {t u : TS} {pos : Pos}
theorem PE.at_ (h : PE X e te) : PEa X B e te := ⟨fun pins s σ H Q I q => wpAt_of_wpAny (h.run pins s σ H Q I q)⟩
theorem PS.at_ (h : PS X st t) : PSa X B st t := ⟨fun pins s σ H D I q => wpAt_of_wpAny (h.run pins s σ H D I q)⟩
theorem PSs.at_ (h : PSs X rest t) : PSsa X B rest t := ⟨fun pins s σ H D I q => wpAt_of_wpAny (h.run pins s σ H D I q)⟩
theorem psa_ret (he : PEa X B e te) : PSa X B (.Return (some e) pos) (tRet te) := by
  refine ⟨fun pins s σ H D I h => ?_⟩
  exact ks_wpAt_Return_some (ks_wpAt_mono (he.run pins s σ H _ I h) (fun v s1 ⟨x, H1, I1, r1, q1⟩ => ⟨x, σ, H1, I1, r1, q1⟩) fun _ _ z => z)
theorem psa_expr (he : PEa X B e te) (hs : swapsWith e none pos.line X.env = pure false := by rfl) : PSa X B (.Expr e pos) (tDrop te) := by
  refine ⟨fun pins s σ H D I h => ?_⟩
  exact ks_wpAt_Expr_any (ks_wpAt_mono (he.run pins s σ H _ I h) (fun v s1 ⟨x, H1, I1, r1, q1⟩ => ⟨σ, H1, I1, q1⟩) fun _ _ z => z) I.quiet hs
theorem psa_if {c : Expr} {a b : List Stmt} {tc : TT} (hc : PT X c tc) (ha : PSsa X B a t) (hb : PSsa X B b u) : PSa X B (.If c a b pos) (tIfS tc t u) := by
  refine ⟨fun pins s σ H D I h => ?_⟩
  refine ks_wpAt_If (ks_wpAt_mono (wpAt_of_wpAny (hc.run pins s σ H _ I h)) (fun d s1 ⟨H1, I1, q1⟩ => ?_) fun _ _ z => z)
  cases d with
  | true => exact ha.run pins s1 σ H1 D I1 q1
  | false => exact hb.run pins s1 σ H1 D I1 q1
theorem pssa_cons (h1 : PSa X B st t) (h2 : PSsa X B rest u) : PSsa X B (st :: rest) (tSeq t u) := by
  refine ⟨fun pins s σ H D I h => ?_⟩
  refine ks_wpAt_execs_cons (ks_wpAt_mono (h1.run pins s σ H { D with nx := u D } I h) (fun f s1 q => ?_) fun _ _ z => z)
  cases f with
  | next =>
    obtain ⟨σ', H', I', q⟩ := q
    exact h2.run pins s1 σ' H' D I' q
  | ret v => exact q
  | brk => exact q
  | cont => exact q
theorem pssa_one (h1 : PSa X B st t) : PSsa X B [st] t := by
  refine ⟨fun pins s σ H D I h => ?_⟩
  refine ks_wpAt_execs_cons (ks_wpAt_mono (h1.run pins s σ H D I h) (fun f s1 q => ?_) fun _ _ z => z)
  cases f with
  | next => exact wpAt_of_wpAny (wpAny_execs_nil q)
  | ret v => exact q
  | brk => exact q
  | cont => exact q
theorem pea_un {op : UnaryOp} {r : V → Hp → VK → Prop} {a : Expr} {ta : TE} (ho : UnR X (unaryOp op) r) (ha : PEa X B a ta) : PEa X B (.UnaryOp op a pos) (tUn r ta) := by
  refine ⟨fun pins s σ H Q I h => ?_⟩
  rw [eval_UnaryOp]
  exact _root_.PySem.wpAt_bind (ks_wpAt_mono (ha.run pins s σ H _ I h) (fun v s1 ⟨x, H1, I1, r1, q1⟩ => wpAt_of_wpAny (wpAny_bind (wpAny_standAt (wpAny_holding (ho pins s1 σ H1 x v Q I1 r1 q1))))) fun _ _ z => z)
end

/-! ### the rule for a def that closes over __class__ -/
abbrev clsCells (cc : Addr) : List (Str × Addr) := [("__class__", cc)]
section
variable {CX : CXT} {P : Program} {w : World} {K : PySem.W.Frag} {mg : Str → Option Value} {base : Heap} {k : Nat} {f cc cda D : Addr} {name qual : Str} {params : Arguments} {body : List Stmt} {scope : Scope} {dV kV doc pm ct oc : Value} {an od : Option Addr}
    {osl : Array (Option Value)} {N ps : List Str} {sp : Sp}
theorem fn_ofC (lk : K.lookup f = some ⟨oc, od, .func (PySem.W.fnX name qual params body scope (clsCells cc) dV kV doc pm an (.ref cda) ct), osl⟩) (hcd : PySem.W.codeIn K (.ref cda) qual = true)
    (hcc : ∃ (o : Obj), K.lookup cc = some o ∧ o.data = .cell (some (.ref D))) (S : NScope N ps ["__class__"] scope) (len : ∀ vs H Q E, sp vs H Q E → vs.length = ps.length)
    (hbody : ∀ (A : Around) (outer : List Env) (s : Shared) (H : Hp) (vs : List V) (Q : VK) (E : XK), Room k (A.deeper (envF ⟨name, qual, params, body, scope, clsCells cc, cda⟩ f s.heap.objs.size)) → sp vs H Q E →
      ∃ t, PSsa (ncx CX P w K mg base N ⟨name, qual, params, body, scope, clsCells cc, cda⟩ f A outer s H E) body body t ∧ t { nx := fun _ H' => Q .non H', rt := Q } (startF N vs [none]) H) :
    FnOk P w K mg base CX (k + 1) f (PySem.W.fnX name qual params body scope (clsCells cc) dV kV doc pm an (.ref cda) ct) ps sp := by
  refine ⟨len, fun A outer s H args us vs Q E hr e0 hb r hsp => ?_⟩
  have hl := len _ _ _ _ hsp
  have KX : K.In s.heap := e0.mod.kin.keeps fun b o e => (e0.bs b o e).1
  have lim : s.heap.NoLimit := e0.mod.nolimit.keeps fun b o e => (e0.bs b o e).1
  refine codeAny_call_function hr.depth (KX _ _ lk) rfl S.co S.gen rfl (PySem.W.codeRec_of KX hcd) (hb _ _ _ _ ?_)
  refine wpAny_newFunctionEnv S.nocell (fun ⟨n, _⟩ hy => S.par n (List.of_mem_zip hy).1) (fun h₁ hns hsb => ⟨lim.fresh _ hsb, ?_⟩) S.kind
  show codeAny _ _ (.func body (envF ⟨name, qual, params, body, scope, clsCells cc, cda⟩ f s.heap.objs.size)) _ _
  refine ks_codeAny_funcAt ?_
  have kp : ∀ b o, s.heap.get? b = some o → h₁.get? b = some o := fun b o e => hsb.extBut b o (Nat.ne_of_lt (Heap.lt_size e)) (Heap.get?_push_of_some _ e)
  obtain ⟨t, ht, hq⟩ := hbody A outer s H vs Q E (hr.deeper _) hsp
  have C : CellsAt (clsCells cc) ["__class__"] [none] s.heap H := by
    obtain ⟨o, lo, od⟩ := hcc
    have hin := e0.mod.kin
    have hg : base.get? cc = some o := hin _ _ lo
    obtain ⟨b1, b2⟩ := e0.bs cc o hg
    have hlook : ∀ y c, (clsCells cc).lookup y = some c → c = cc ∧ y = "__class__" := fun y c e => by
      unfold clsCells at e
      rw [List.lookup_cons] at e
      split at e
      · rename_i h
        cases e
        exact ⟨rfl, eq_of_beq h⟩
      · cases e
    refine ⟨rfl, fun y c e => ?_, fun x y c e1 e2 => ?_, fun i y e => ?_⟩
    · obtain ⟨rfl, _⟩ := hlook y c e
      exact ⟨b2, _, o, b1, od⟩
    · rw [(hlook x c e1).2, (hlook y c e2).2]
    · match i, e with
      | 0, e =>
        cases e
        exact ⟨cc, rfl, fun v z => by cases z⟩
  have I : Inv (ncx CX P w K mg base N ⟨name, qual, params, body, scope, clsCells cc, cda⟩ f A outer s H E) [] (startF N vs [none]) H { s with heap := h₁, toks := s.toks + (ps.zip us).length } := inv_startN S hr.hd e0 hl r C hns kp
  refine ks_wpAt_mono (ht.run [] _ (startF N vs [none]) H _ I hq) (fun fl s' hs => ?_) fun e s' hs => hs
  have fin : ∀ {σ' : L2.St} {H' : Hp} {v : V} {u : Value}, Inv (ncx CX P w K mg base N ⟨name, qual, params, body, scope, clsCells cc, cda⟩ f A outer s H E) [] σ' H' s' → L2.RelV v u → Q v H' → CE outer P w H s Q u s' :=
    fun {σ' H' v u} J rv q => ⟨v, H', J.os, J.bare, J.base, J.hok, rv, q⟩
  cases fl with
  | ret u =>
    obtain ⟨v, σ', H', J, rv, q⟩ := hs
    exact fin J rv q
  | next =>
    obtain ⟨σ', H', J, q⟩ := hs
    exact fin (v := V.non) (u := Value.none) J rfl q
  | brk =>
    obtain ⟨_, _, _, q⟩ := hs
    exact False.elim q
  | cont =>
    obtain ⟨_, _, _, q⟩ := hs
    exact False.elim q
end

/-! ### super().m(e, .., k = v, ..) -/
/-- what of the text and of the context super() asks -/
structure SupC (X : Cx) (f cda cc D : Addr) (sf : Str) : Prop where
  hks : X.env.kindOf "super" = some .globalImplicit
  hkc : X.env.kindOf "__class__" = some .free
  fu : X.env.func = some f
  co : X.env.code = .ref cda
  fdd : ∃ (o : Obj) (fd : FuncData) (ar : Arg), X.K.lookup f = some o ∧ o.data = .func fd ∧ (fd.params.posonlyargs ++ fd.params.args).head? = some ar ∧ ar.arg = sf
  nm : X.N[0]? = some sf
  ka : X.env.kindOf sf = some .local
  code : ∃ (o : Obj) (vs : Array Value) (file : Str) (tf : Tok), X.K.lookup cda = some o ∧ o.data = .fields vs ∧ vs[2]? = some (.str file tf) ∧ (X.prog.main.file == file) = true
  cell : ∃ (o : Obj), X.K.lookup cc = some o ∧ o.data = .cell (some (.ref D))
  lk : X.env.cells.lookup ("__class__" : Str) = some cc
  cls : ∃ cd, PySem.W.clsIn X.K D = some cd
  top : (X.prog.main.scope.names.lookup ("super" : Str)).isSome = false
  ms : X.mg "super" = none
  any_ : PySem.W.nsIn X.K cStatics "thirdparty.any" = some none
/-- the method m above D, of an instance of C -/
structure SupM (K : PySem.W.Frag) (C D : Addr) (m : Str) (g : Addr) : Prop where
  sub : PySem.W.mroIn K C (.ref D) = some true
  at_ : PySem.W.ks_superIn K C D m = some (some (.ref g))
  ty : PySem.W.typeIn K (.ref g) = some (.type "function")
  fi : PySem.W.fnIn K g = true
section
variable {X : Cx} {pins : List (Addr × Obj)} {σ : L2.St} {H : Hp} {s : Shared} {a C dx : Addr} {fs : List (Str × V)} {f cda cc D : Addr} {sf : Str} {B : List Stmt}
/-- super() -/
theorem base_super {p0 p1 : Pos} {attr : Str} {whole : Sem Value} {Q : Value → Shared → Prop} (S : SupC X f cda cc D sf) (I : Inv X pins σ H s) (hσ : σ[0]? = some (some (.ref a))) (e : H a = some (.ins C dx fs)) (sub : PySem.W.mroIn X.K C (.ref D) = some true)
    (hat : (attr == ("__class__" : Str)) = false) (h : ∀ so s', Inv X ((so, PySem.W.ks_superObj D a C) :: pins) σ H s' → Q (.ref so) s') :
    _root_.PySem.wpAt (model X.prog X.w) X.A (.func B X.env) (attributeBase (.Call (.Name "super" p0) [] [] p1) attr X.env whole) Q X.xe s := by
  have KX := I.kIn
  obtain ⟨of, fd, ar, l1, l2, l3, rfl⟩ := S.fdd
  obtain ⟨oc, vs, file, tf, c1, c2, c3, c4⟩ := S.code
  obtain ⟨ocl, cl1, cl2⟩ := S.cell
  obtain ⟨cd, hcd⟩ := S.cls
  obtain ⟨oD, hD1, hD2⟩ : ∃ oD, s.heap.get? D = some oD ∧ oD.data = .cls cd := by
    have hcd := hcd
    unfold PySem.W.clsIn at hcd
    split at hcd
    · rename_i c d cd' sl ho
      cases hcd
      exact ⟨_, KX _ _ ho, rfl⟩
    · cases hcd
  refine ks_wpAt_super_base (env := X.env) S.hks S.hkc hat S.fu (KX _ _ l1) l2 l3 S.co (KX _ _ c1) c2 c3 c4 S.top ?_
  obtain ⟨mb, b1, b2⟩ := I.mod.blt
  refine PySem.W.ks_loadName_global I.ok.kind S.hks (Calls.loadGlobal_builtin (by rw [I.ok.glob]; exact I.mod.glob.keeps I.bk) S.ms (by rw [I.ok.blt]; exact b1.keeps I.bk) ((b2 _ (by decide +kernel)).trans (by first | rfl | kernel_rfl | decide +kernel)) ⟨rfl, ?_⟩)
  refine wpAny_loadName_free I.ok.kind S.hkc S.lk ⟨_, KX _ _ cl1, cl2⟩ ?_
  obtain ⟨m, hn, hl⟩ := I.loc
  obtain ⟨u, r, l⟩ := hl 0 _ _ S.nm hσ (.inl S.ka)
  obtain rfl : u = Value.ref a := r
  rcases l with ⟨hk, hm⟩ | ⟨hk, c, hc, hcell⟩
  case inr =>
    rw [S.ka] at hk
    rcases hk with hk | hk <;> cases hk
  refine wpAny_loadName_local I.ok.kind S.ka hn hm ?_
  refine ks_wpAny_isType_cls hD1 hD2 ⟨rfl, ?_⟩
  obtain ⟨mA, O, _, _, _, _⟩ := ins_get I.hok e
  obtain ⟨od, J, _⟩ := O.look
  obtain ⟨hh, g, d, t, os⟩ := s
  refine ks_wpAny_call_super hD1 hD2 J.at_ J.cls (fun c e => ?_) (PySem.W.looks_mroIn KX sub) (fun h' e k => ?_)
  · have := J.no
    unfold PySem.W.notCls at this
    rw [e] at this
    exact Bool.noConfusion this
  · exact h _ _ (ClX.pin_new I k (Nat.le_refl _) e (fun v z => nomatch z))
/-- .m of it: a bound method, new -/
theorem meth_super {so : Addr} {m : Str} {g : Addr} {pl : Sem Bool} {E : Value → Shared → Prop} {A : Around} {Q : Value × List Value → Shared → Prop} (I : Inv X ((so, PySem.W.ks_superObj D a C) :: pins) σ H s) (e : H a = some (.ins C dx fs)) (ha : PySem.W.nsIn X.K cStatics "thirdparty.any" = some none)
    (M : SupM X.K C D m g) (hn : (m == ("__class__" : Str)) = false) (h : ∀ q s', Inv X ((q, PySem.W.methodObj (.ref g) (.ref a)) :: pins) σ H s' → X.base.get? q = none → Q (.ref q, []) s') :
    wpAny (model X.prog X.w) A (getMethod (.ref so) m pl) Q E s := by
  have KX := I.kIn
  have hso := ClX.pin_at I
  have I0 := ClX.unpin I
  obtain ⟨mA, O, _, _, _, _⟩ := ins_get I.hok e
  obtain ⟨od, J, _⟩ := O.look
  have hb := ClX.base_none I0 (Nat.le_refl _)
  obtain ⟨hh, gg, d, t, os⟩ := s
  have hm := M.at_
  have ht := M.ty
  cases hc : PySem.W.clsIn X.K C with
  | none => unfold PySem.W.ks_superIn at hm; rw [hc] at hm; cases hm
  | some cd =>
    unfold PySem.W.ks_superIn at hm
    rw [hc] at hm
    obtain ⟨of, hof, hofc⟩ : ∃ of, hh.get? g = some of ∧ of.cls = .type "function" := by
      have ht' : (X.K.lookup g).map (·.cls) = some (.type "function") := ht
      cases z : X.K.lookup g with
      | none => rw [z] at ht'; cases ht'
      | some of => rw [z] at ht'; exact ⟨of, KX _ _ z, Option.some.inj ht'⟩
    refine ks_wpAny_getMethod_super hso (PySem.W.looks_opaque KX ha) (l₀ := cd.mro) ?_ rfl KX hm hof hofc (PySem.W.ks_ne KX J hc) hn ?_
    · exact fun A Q E s k q => wpAny_bind ((PySem.W.looks_clsIn KX hc) A _ E s k (wpAny_pure q))
    · exact h _ _ (ClX.pin_new I0 (fun _ _ z => Heap.get?_push_of_some _ z) (Nat.le_refl _) (Heap.get?_push_at rfl rfl) (fun v z => nomatch z)) hb
end
/-- super().m(e, ..), self in the first slot -/
def tSup (C : Addr) (sp : Sp) (E : XK) (t : TA) : TE := fun σ H Q => ∃ a dx fs, σ[0]? = some (some (.ref a)) ∧ H a = some (.ins C dx fs) ∧ t σ H fun vs H1 => sp (.ref a :: vs) H1 Q E
/-- super().m(e, .., k = v, ..) -/
def tSupK (C : Addr) (n m : Nat) (sp : Sp) (gV : List V → List V → List V) (E : XK) (t tk : TA) : TE := fun σ H Q => ∃ a dx fs, σ[0]? = some (some (.ref a)) ∧ H a = some (.ins C dx fs) ∧ t σ H fun vs H1 => tk σ H1 fun zs H2 => vs.length = n ∧ zs.length = m ∧ sp (gV (.ref a :: vs) zs) H2 Q E
section
variable {X : Cx} {CX : CXT} {k n : Nat} {C D f g cda cc : Addr} {sf m : Str} {fd : FuncData} {ps ks : List Str} {sp : Sp} {E : XK} {B : List Stmt} {p0 p1 apos pos : Pos} {e : Expr} {es : List Expr} {kws : List Keyword} {t tk : TA} {gg : List Value → List Value → List Value} {gV : List V → List V → List V} {pl : Sem Bool}
theorem pea_super (S : SupC X f cda cc D sf) (M : SupM X.K C D m g) (F : FnOk X.prog X.w X.K X.mg X.base CX k g fd ps sp) (hr : Room k X.A) (hb : Binds X.K fd ps []) (hx : Passes CX X E) (ha : PA X (e :: es) t)
    (hn : (m == ("__class__" : Str)) = false := by decide) (hst : starEach (e :: es) X.env = (false, eval e X.env) :: starEach es X.env := by rfl) (hpl : (backTo pos (starEach es X.env)).any (·.1) = false := by rfl)
    (ht : eval (.Call (.Attribute (.Call (.Name "super" p0) [] [] p1) m apos) (e :: es) [] pos) X.env = (do
      let ov ← attributeBase (.Call (.Name "super" p0) [] [] p1) m X.env (eval (.Call (.Name "super" p0) [] [] p1) X.env)
      standAt apos.atName
      let (f, first) ← holding [ov] (getMethod ov m pl)
      callWith pos f first (backTo pos (starEach (e :: es) X.env)) []) := by rfl) :
    PEa X B (.Call (.Attribute (.Call (.Name "super" p0) [] [] p1) m apos) (e :: es) [] pos) (tSup C sp E t) := by
  refine ⟨fun pins s σ H Q I ⟨a, dx, fs, h1, h2, h3⟩ => ?_⟩
  refine ks_wpAt_MethodCall (pl := pl) (base_super S I h1 h2 M.sub hn fun so s1 I1 => ?_) ht
  refine meth_super I1 h2 S.any_ M hn fun q s2 I2 hbq => ?_
  refine ClX.callwith_cm I2 hbq M.fi (thn (ha.run pos _ s2 σ H _ I2 h3) fun us s3 ⟨vs, H2, I3, rv, q2⟩ => ⟨⟨ClX.pin_at I3, I3.kIn⟩, ?_⟩) hst hpl
  have z : wpAny (model X.prog X.w) X.A (call (.ref q) us) (EP X ((q, PySem.W.methodObj (.ref g) (.ref a)) :: pins) σ Q) X.xe s3 := by
    have hl : (Value.ref a :: us).length = ps.length := by
      have := F.len _ _ _ _ q2
      rw [List.length_cons] at this ⊢
      rw [← rv.length]
      exact this
    have hbb := hb s3 (.ref a :: us) I3.kIn (by rw [List.append_nil]; exact hl)
    rw [List.append_nil] at hbb
    refine wpAny_call (PySem.W.method_call (ClX.pin_at I3) (codeAny_mono (F.run X.A X.stack s3 H2 ⟨.ref a :: us, []⟩ (.ref a :: us) (.ref a :: vs) Q E hr I3.env0 hbb (.cons rfl rv) q2) fun r s' hq => ?_))
    cases r with
    | error e => exact hx _ σ H2 s3 e s' I3 hq
    | ok fl =>
      cases fl with
      | ret u => exact I3.after hq
      | next => exact False.elim hq
      | brk => exact False.elim hq
      | cont => exact False.elim hq
  exact thn z fun _ _ y => ClX.unpinE y
theorem pea_superK (S : SupC X f cda cc D sf) (M : SupM X.K C D m g) (F : FnOk X.prog X.w X.K X.mg X.base CX k g fd ps sp) (hr : Room k X.A) (hb : KBn X.K fd ps (n + 1) ks gg gV) (hx : Passes CX X E) (ha : PA X (e :: es) t) (hkw : PK X kws tk)
    (hn : (m == ("__class__" : Str)) = false := by decide) (hall : (backToKw pos (keywordEach kws X.env)).all (·.1.isSome) = true := by rfl) (hks : (backToKw pos (keywordEach kws X.env)).filterMap (·.1) = ks := by rfl)
    (hst : starEach (e :: es) X.env = (false, eval e X.env) :: starEach es X.env := by rfl) (hpl : ((backTo pos (starEach (e :: es) X.env)).any (·.1) || (backToKw pos (keywordEach kws X.env)).any (·.1.isNone)) = false := by rfl)
    (ht : eval (.Call (.Attribute (.Call (.Name "super" p0) [] [] p1) m apos) (e :: es) kws pos) X.env = (do
      let ov ← attributeBase (.Call (.Name "super" p0) [] [] p1) m X.env (eval (.Call (.Name "super" p0) [] [] p1) X.env)
      standAt apos.atName
      let (f, first) ← holding [ov] (getMethod ov m pl)
      callWith pos f first (backTo pos (starEach (e :: es) X.env)) (backToKw pos (keywordEach kws X.env))) := by rfl) :
    PEa X B (.Call (.Attribute (.Call (.Name "super" p0) [] [] p1) m apos) (e :: es) kws pos) (tSupK C n ks.length sp gV E t tk) := by
  refine ⟨fun pins s σ H Q I ⟨a, dx, fs, h1, h2, h3⟩ => ?_⟩
  rw [ht]
  refine _root_.PySem.wpAt_bind (base_super S I h1 h2 M.sub hn fun so s1 I1 => wpAt_of_wpAny (wpAny_bind (wpAny_standAt (wpAny_bind (wpAny_holding ?_)))))
  refine meth_super I1 h2 S.any_ M hn fun q s2 I2 hbq => ?_
  show wpAny _ _ (callWith pos (.ref q) [] _ _) _ _ _
  refine PySem.W.callWith_of (P := PySem.W.MethP X.K q g (.ref a)) hpl (PySem.W.keeps_M M.fi) (evalArgs_kw2 hall (thn (ha.run pos _ s2 σ H _ I2 h3) fun us s3 ⟨vs, H1, I3, rv, q2⟩ => thn (hkw.run pos _ s3 σ H1 _ I3 q2) fun ws s4 ⟨zs, H2, I4, rz, l1, l2, q3⟩ => ⟨⟨ClX.pin_at I4, I4.kIn⟩, ?_⟩) hst)
  rw [hks]
  have z : wpAny (model X.prog X.w) X.A (call (.ref q) us (ks.zip ws)) (EP X ((q, PySem.W.methodObj (.ref g) (.ref a)) :: pins) σ Q) X.xe s4 := by
    have r1 : Vals (V.ref a :: vs) (Value.ref a :: us) := .cons rfl rv
    have r2 := hb.rel r1 rz
    have hbb := hb.to s4 (.ref a :: us) ws I4.kIn (by rw [List.length_cons, ← rv.length, l1]) (rz.length.symm.trans l2)
    refine wpAny_call (ks_codeAny_call_bound (ClX.pin_at I4) (codeAny_mono (F.run X.A X.stack s4 H2 ⟨.ref a :: us, ks.zip ws⟩ (gg (.ref a :: us) ws) (gV (.ref a :: vs) zs) Q E hr I4.env0 hbb r2 q3) fun r s' hq => ?_))
    cases r with
    | error e => exact hx _ σ H2 s4 e s' I4 hq
    | ok fl =>
      cases fl with
      | ret u => exact I4.after hq
      | next => exact False.elim hq
      | brk => exact False.elim hq
      | cont => exact False.elim hq
  exact thn z fun _ _ y => ClX.unpinE y
end
/-! ### o.m(k = v, ..), f(k = v, ..) where f is an instance -/
/-- o.m(k = v, ..) -/
def tMethKw (C : Addr) (m : Str) (n : Nat) (sp : Sp) (gV : List V → List V → List V) (E : XK) (ta : TE) (tk : TA) : TE := fun σ H Q => ta σ H fun x H1 => ∃ a dx fs, x = .ref a ∧ H1 a = some (.ins C dx fs) ∧ fs.lookup m = none ∧ tk σ H1 fun zs H2 => zs.length = n ∧ sp (gV [.ref a] zs) H2 Q E
/-- f(k = v, ..) -/
def tCallOKw (X : Cx) (C : Addr) (n : Nat) (sp : Sp) (gV : List V → List V → List V) (E : XK) (tf : TE) (tk : TA) : TE := fun σ H Q => tf σ H fun y H1 => ∃ a, y = V.ref a ∧ tk σ H1 fun zs H2 => zs.length = n ∧ StX.InsC X H2 a C ∧ sp (gV [.ref a] zs) H2 Q E
section
variable {X : Cx} {CX : CXT} {k : Nat} {C f : Addr} {m : Str} {fd : FuncData} {ps ks : List Str} {sp : Sp} {E : XK} {o fe : Expr} {kws : List Keyword} {ta tf : TE} {tk : TA} {apos pos : Pos} {pl : Sem Bool} {gg : List Value → List Value → List Value} {gV : List V → List V → List V}
theorem pe_methKw (he : PE X o ta) (c : Cls X.K C) (hm : Meth X.K C m f) (F : FnOk X.prog X.w X.K X.mg X.base CX k f fd ps sp) (hr : Room k X.A) (hb : KBn X.K fd ps 1 ks gg gV) (hx : Passes CX X E) (hkw : PK X kws tk)
    (hall : (backToKw pos (keywordEach kws X.env)).all (·.1.isSome) = true := by rfl) (hks : (backToKw pos (keywordEach kws X.env)).filterMap (·.1) = ks := by rfl)
    (hpl : ((backTo pos (starEach [] X.env)).any (·.1) || (backToKw pos (keywordEach kws X.env)).any (·.1.isNone)) = false := by rfl)
    (ht : eval (.Call (.Attribute o m apos) [] kws pos) X.env = (do
      let ov ← eval o X.env
      standAt apos.atName
      let (f, first) ← holding [ov] (getMethod ov m pl)
      callWith pos f first (backTo pos (starEach [] X.env)) (backToKw pos (keywordEach kws X.env))) := by rfl) :
    PE X (.Call (.Attribute o m apos) [] kws pos) (tMethKw C m ks.length sp gV E ta tk) := by
  refine ⟨fun pins s σ H Q I h => ?_⟩
  refine PySem.W.methodCall_KW (pl := pl) (thn (he.run pins s σ H _ I h) fun u s1 ⟨x, H1, I1, rx, a, dx, fs, ex, ea, l, q⟩ => ?_) ht
  subst ex
  obtain rfl : u = Value.ref a := rx
  refine getmeth_ok I1 ea c hm l ?_
  refine PySem.W.callWith_KW0 (h₀ := X.base) I.ok.mod.kin hm.kp hall ?_ hpl
  refine thn (hkw.run pos pins s1 σ H1 _ I1 q) fun ws s2 ⟨zs, H2, I2, rz, l1, q2⟩ => ⟨I2.kIn, ?_⟩
  rw [hks]
  exact run_fnN (us := [.ref a]) (vs := [.ref a]) F hr hb hx I2 (.cons rfl .nil) rz rfl l1 q2
theorem callO_ofK {M : Model} {A : Around} {E : Value → Shared → Prop} {s : Shared} {a : Addr} {pos : Pos} {Q : Value → Shared → Prop} {args : List (Bool × Sem Value)} {keywords : List (Option Str × Sem Value)} (hplain : (args.any (·.1) || keywords.any (·.1.isNone)) = false)
    (h : wpAny M A (evalArgs (.ref a) true args keywords) (fun z s₁ => (∃ C ox od, PySem.W.InstAt s₁.heap a ox C od ∧ ox.data = .plain) ∧ wpAny M A (call (.ref a) ([] ++ z.pos) z.kw) Q E s₁) E s) : wpAny M A (callWith pos (.ref a) [] args keywords) Q E s := by
  unfold callWith
  refine wpAny_bind (wpAny_holding (wpAny_mono h (fun z s₁ h₁ => wpAny_bind (wpAny_standAt ?_)) fun _ _ y => y))
  obtain ⟨⟨C, ox, od, J, hd⟩, h₁⟩ := h₁
  have L := PySem.W.kco_keeper (M := M) J hd
  simp only [hplain]
  refine wpAny_bind (L.here ?_)
  have tail : ∀ {t : Sem Value}, wpAny M A t Q E s₁ → wpAny M A (t >>= fun r => holding [r] point >>= fun _ => pure r) Q E s₁ :=
    fun ht => wpAny_bind (wpAny_mono ht (fun r s₂ hr => wpAny_bind (wpAny_holding (wpAny_point (wpAny_pure hr)))) fun _ _ y => y)
  exact tail (wpAny_operateT h₁)
theorem pe_callOKw {g : Addr} (hf : PE X fe tf) (c : StX.CallO X.K C g) (F : FnOk X.prog X.w X.K X.mg X.base CX k g fd ps sp) (hr : Room k X.A) (hb : KBn X.K fd ps 1 ks gg gV) (hx : Passes CX X E) (hkw : PK X kws tk)
    (hall : (backToKw pos (keywordEach kws X.env)).all (·.1.isSome) = true := by rfl) (hks : (backToKw pos (keywordEach kws X.env)).filterMap (·.1) = ks := by rfl)
    (hpl : ((backTo pos (starEach [] X.env)).any (·.1) || (backToKw pos (keywordEach kws X.env)).any (·.1.isNone)) = false := by rfl)
    (ht : eval (.Call fe [] kws pos) X.env = (do callWith pos (← eval fe X.env) [] (backTo pos (starEach [] X.env)) (backToKw pos (keywordEach kws X.env))) := by rfl) : PE X (.Call fe [] kws pos) (tCallOKw X C ks.length sp gV E tf tk) := by
  refine ⟨fun pins s σ H Q I h => ?_⟩
  rw [ht]
  refine wpAny_bind (thn (hf.run pins s σ H _ I h) fun u s1 ⟨y, H1, I1, ry, a, ey, q⟩ => ?_)
  subst ey
  obtain rfl : u = Value.ref a := ry
  refine callO_ofK hpl (evalArgs_kw2_nil hall (thn (hkw.run pos pins s1 σ H1 _ I1 q) fun ws s2 ⟨zs, H2, I2, rz, l1, hi, q2⟩ => ?_))
  obtain ⟨ox, od, J, hd⟩ := StX.insC_at I2 hi
  refine ⟨⟨C, ox, od, J, hd⟩, ?_⟩
  rw [hks]
  have r2 := hb.rel (show Vals [V.ref a] [Value.ref a] from .cons rfl .nil) rz
  have hbb := hb.to s2 [.ref a] ws I2.kIn rfl (rz.length.symm.trans l1)
  refine wpAny_call (PySem.W.kco_code I2.kIn J hd c.at_ c.fn c.fi (codeAny_mono (F.run X.A X.stack s2 H2 ⟨[.ref a], ks.zip ws⟩ (gg [.ref a] ws) (gV [.ref a] zs) Q E hr I2.env0 hbb r2 q2) fun r s' hq => ?_))
  cases r with
  | error e => exact hx pins σ H2 s2 e s' I2 hq
  | ok fl =>
    cases fl with
    | ret u => exact I2.after hq
    | next => exact False.elim hq
    | brk => exact False.elim hq
    | cont => exact False.elim hq
end
/-! ### defs that close over __class__, with defaults -/
/-- a def that closes over __class__ (the class at D), as it stands behind the top -/
structure FunC (K : PySem.W.Frag) (P : Program) (x qual : Str) (params : Arguments) (body : List Stmt) (scope : Scope) (dvs : List V) (kws : List (Str × V)) (D f : Addr) (fd : FuncData) : Prop where
  ex : ∃ (cc cda : Addr) (oc : Value) (od : Option Addr) (dV kV doc pm : Value) (an : Option Addr) (ct : Value) (osl : Array (Option Value)),
    fd = PySem.W.fnX x qual params body scope (clsCells cc) dV kV doc pm an (.ref cda) ct ∧ K.lookup f = some ⟨oc, od, .func fd, osl⟩ ∧ PySem.W.codeIn K (.ref cda) qual = true ∧
    (∃ (o : Obj) (vs : Array Value) (file : Str) (tf : Tok), K.lookup cda = some o ∧ o.data = .fields vs ∧ vs[2]? = some (.str file tf) ∧ (P.main.file == file) = true) ∧
    (∃ (o : Obj), K.lookup cc = some o ∧ o.data = .cell (some (.ref D))) ∧ DflV K dV dvs ∧ KwdV K kV kws
  kp : PySem.W.keepIn K (.ref f) = true
  cls : ∃ cd, PySem.W.clsIn K D = some cd
  any_ : PySem.W.nsIn K cStatics "thirdparty.any" = some none
  top : (P.main.scope.names.lookup ("super" : Str)).isSome = false
section
variable {CX : CXT} {P : Program} {w : World} {K : PySem.W.Frag} {mg : Str → Option Value} {base : Heap} {k : Nat} {f D : Addr} {fd : FuncData} {x qual : Str} {params : Arguments} {body : List Stmt} {scope : Scope} {dvs : List V} {kws : List (Str × V)} {N ps : List Str} {sp : Sp}
theorem FunC.ok (F : FunC K P x qual params body scope dvs kws D f fd) (S : NScope N ps ["__class__"] scope) (ms : mg "super" = none) (s1 : scope.names.lookup ("super" : Str) = some .globalImplicit) (s2 : scope.names.lookup ("__class__" : Str) = some .free)
    {ar : Arg} (hp : (params.posonlyargs ++ params.args).head? = some ar) (hN : N[0]? = some ar.arg) (hl : scope.names.lookup ar.arg = some .local) (len : ∀ vs H Q E, sp vs H Q E → vs.length = ps.length)
    (hbody : ∀ (cc cda : Addr) (A : Around) (outer : List Env) (s : Shared) (H : Hp) (vs : List V) (Q : VK) (E : XK), Room k (A.deeper (envF ⟨x, qual, params, body, scope, clsCells cc, cda⟩ f s.heap.objs.size)) →
      SupC (ncx CX P w K mg base N ⟨x, qual, params, body, scope, clsCells cc, cda⟩ f A outer s H E) f cda cc D ar.arg → sp vs H Q E →
      ∃ t, PSsa (ncx CX P w K mg base N ⟨x, qual, params, body, scope, clsCells cc, cda⟩ f A outer s H E) body body t ∧ t { nx := fun _ H' => Q .non H', rt := Q } (startF N vs [none]) H) :
    FnOk P w K mg base CX (k + 1) f fd ps sp := by
  obtain ⟨cc, cda, oc, od, dV, kV, doc, pm, an, ct, osl, rfl, lk, hcd, hcode, hcell, _, _⟩ := F.ex
  refine fn_ofC (D := D) lk hcd hcell S len fun A outer s H vs Q E hr hsp => ?_
  exact hbody cc cda A outer s H vs Q E hr ⟨s1, s2, rfl, rfl, ⟨_, _, ar, lk, rfl, hp, rfl⟩, hN, hl, hcode, hcell, rfl, F.cls, F.top, ms, F.any_⟩ hsp
theorem FunC.binds (F : FunC K P x qual params body scope dvs kws D f fd) (n j : Nat) (hd : dvs ≠ []) (hn : n + ((dvs.length - j) + kws.length) = ps.length)
    (h : ∀ (cl : List (Str × Addr)) (T D : Addr) (doc pm : Value) (an : Option Addr) (cdv ct : Value) (us its ks : List Value), us.length = n → its.length = dvs.length → ks.length = kws.length →
      ∃ k, bindArgs (PySem.W.fnX x qual params body scope cl (.ref T) (.ref D) doc pm an cdv ct) ⟨us, []⟩ = seqItems? (.ref T) >>= k ∧ KwChain D ((kws.map (·.1)).zip ks) (k (some its.toArray)) (ps.zip (us ++ (its.drop j ++ ks))))
    (hk : kws ≠ []) : ∃ ds, Vals (dvs.drop j ++ kws.map (·.2)) ds ∧ Binds K fd ps ds := by
  obtain ⟨cc, cda, oc, od, dV, kV, doc, pm, an, ct, osl, rfl, lk, hcd, hcode, hcell, hD, hK⟩ := F.ex
  rcases hD with ⟨e, _⟩ | ⟨_, T, o, its, m, rfl, lT, oT, rT⟩
  · exact absurd e hd
  · rcases hK with e | ⟨D, rfl, hq⟩
    · exact absurd e hk
    · obtain ⟨ks, hl, rk, hks⟩ := kwd_vals hq
      refine ⟨its.drop j ++ ks, (rT.drop j).append rk, fun s us X hlen => ?_⟩
      have l1 : its.length = dvs.length := rT.length.symm
      have l2 : us.length = n := by
        rw [List.length_append, List.length_append, List.length_drop, l1, hl] at hlen
        omega
      obtain ⟨k, e1, e2⟩ := h _ T D doc pm an (.ref cda) ct us its ks l2 l1 hl
      refine BindsTo.of_looks fun M => ?_
      rw [e1]
      exact looks_items X lT oT (KwChain.looks X hks e2)
theorem FunC.kbinds (F : FunC K P x qual params body scope dvs kws D f fd) (n : Nat) (ks : List Str) (ms : List (Str × V)) (g : {α : Type} → List α → List α → List α → List α → List α) (hd : dvs ≠ []) (hk : kws ≠ []) (hms : ∀ q ∈ ms, q ∈ kws)
    (hrel : ∀ {vs ds mz zs : List V} {us its mv ws : List Value}, Vals vs us → Vals ds its → Vals mz mv → Vals zs ws → Vals (g vs ds mz zs) (g us its mv ws))
    (h : ∀ (cl : List (Str × Addr)) (T D : Addr) (doc pm : Value) (an : Option Addr) (cdv ct : Value) (us its mv ws : List Value), us.length = n → its.length = dvs.length → mv.length = ms.length → ws.length = ks.length →
      ∃ k, bindArgs (PySem.W.fnX x qual params body scope cl (.ref T) (.ref D) doc pm an cdv ct) ⟨us, ks.zip ws⟩ = seqItems? (.ref T) >>= k ∧ KwChain D ((ms.map (·.1)).zip mv) (k (some its.toArray)) (ps.zip (g us its mv ws))) :
    ∃ its mv : List Value, KBn K fd ps n ks (fun us ws => g us its mv ws) (fun vs zs => g vs dvs (ms.map (·.2)) zs) := by
  obtain ⟨cc, cda, oc, od, dV, kV, doc, pm, an, ct, osl, rfl, lk, hcd, hcode, hcell, hD, hK⟩ := F.ex
  rcases hD with ⟨e, _⟩ | ⟨_, T, o, its, m, rfl, lT, oT, rT⟩
  · exact absurd e hd
  · rcases hK with e | ⟨D, rfl, hq⟩
    · exact absurd e hk
    · obtain ⟨mv, hl, rk, hks⟩ := kwd_vals (ms := ms) fun q hm => hq q (hms q hm)
      refine ⟨its, mv, ⟨fun s us ws X l1 l2 => ?_, fun r1 r2 => hrel r1 rT rk r2⟩⟩
      obtain ⟨k, e1, e2⟩ := h _ T D doc pm an (.ref cda) ct us its mv ws l1 rT.length.symm hl l2
      refine BindsTo.of_looks fun M => ?_
      rw [e1]
      exact looks_items X lT oT (KwChain.looks X hks e2)
theorem FunC.bindsN (F : FunC K P x qual params body scope [] kws D f fd) (h : ∀ (cl : List (Str × Addr)) (kV doc pm : Value) (an : Option Addr) (cdv ct : Value) (us : List Value), us.length = ps.length → bindArgs (PySem.W.fnX x qual params body scope cl .none kV doc pm an cdv ct) ⟨us, []⟩ = pure (ps.zip us)) : Binds K fd ps [] := by
  obtain ⟨cc, cda, oc, od, dV, kV, doc, pm, an, ct, osl, rfl, lk, hcd, hcode, hcell, hD, hK⟩ := F.ex
  rcases hD with ⟨_, rfl⟩ | ⟨e, _⟩
  · exact .all (h _ kV doc pm an (.ref cda) ct)
  · exact absurd rfl e
theorem FunC.kbn (F : FunC K P x qual params body scope [] kws D f fd) (n : Nat) (ks : List Str) (g : List Value → List Value → List Value) (gV : List V → List V → List V)
    (hrel : ∀ {vs : List V} {us : List Value} {zs : List V} {ws : List Value}, Vals vs us → Vals zs ws → Vals (gV vs zs) (g us ws))
    (h : ∀ (cl : List (Str × Addr)) (kV doc pm : Value) (an : Option Addr) (cdv ct : Value) (us ws : List Value), us.length = n → ws.length = ks.length → bindArgs (PySem.W.fnX x qual params body scope cl .none kV doc pm an cdv ct) ⟨us, ks.zip ws⟩ = pure (ps.zip (g us ws))) : KBn K fd ps n ks g gV := by
  obtain ⟨cc, cda, oc, od, dV, kV, doc, pm, an, ct, osl, rfl, lk, hcd, hcode, hcell, hD, hK⟩ := F.ex
  rcases hD with ⟨_, rfl⟩ | ⟨e, _⟩
  · exact ⟨fun s us ws _ l1 l2 => BindsTo.of_eq (h _ kV doc pm an (.ref cda) ct us ws l1 l2), hrel⟩
  · exact absurd rfl e
end
/-! ### methods and calls of an instance whose class is one of several -/
/-- what each class of the family has: the def at g C keeps sp C -/
structure Fam1 (X : Cx) (CX : CXT) (k : Nat) (R : Addr → Prop) (m : Str) (ps : List Str) (sp : Addr → Sp) (C g : Addr) (fd : FuncData) : Prop where
  cl : Cls X.K C
  m : Meth X.K C m g
  ok : FnOk X.prog X.w X.K X.mg X.base CX k g fd ps (sp C)
  b : Binds X.K fd ps []
def Fam (X : Cx) (CX : CXT) (k : Nat) (R : Addr → Prop) (m : Str) (ps : List Str) (sp : Addr → Sp) : Prop := ∀ C, R C → ∃ g fd, Fam1 X CX k R m ps sp C g fd
/-- .. called with keywords -/
def FamK (X : Cx) (CX : CXT) (k : Nat) (R : Addr → Prop) (m : Str) (ps ks : List Str) (gV : List V → List V → List V) (sp : Addr → Sp) : Prop := ∀ C, R C → ∃ g fd gg, Fam1 X CX k R m ps sp C g fd ∧ KBn X.K fd ps 1 ks gg gV
def tMethF (R : Addr → Prop) (m : Str) (sp : Addr → Sp) (E : XK) (ta : TE) (t : TA) : TE := fun σ H Q => ta σ H fun x H1 => ∃ a C dx fs, x = .ref a ∧ H1 a = some (.ins C dx fs) ∧ R C ∧ fs.lookup m = none ∧ t σ H1 fun vs H2 => sp C (.ref a :: vs) H2 Q E
def tMethFK (R : Addr → Prop) (m : Str) (n : Nat) (sp : Addr → Sp) (gV : List V → List V → List V) (E : XK) (ta : TE) (tk : TA) : TE := fun σ H Q => ta σ H fun x H1 => ∃ a C dx fs, x = .ref a ∧ H1 a = some (.ins C dx fs) ∧ R C ∧ fs.lookup m = none ∧ tk σ H1 fun zs H2 => zs.length = n ∧ sp C (gV [.ref a] zs) H2 Q E
def FamC (X : Cx) (CX : CXT) (k : Nat) (R : Addr → Prop) (ps : List Str) (sp : Addr → Sp) : Prop := ∀ C, R C → ∃ g fd, StX.CallO X.K C g ∧ FnOk X.prog X.w X.K X.mg X.base CX k g fd ps (sp C) ∧ Binds X.K fd ps []
def FamCK (X : Cx) (CX : CXT) (k : Nat) (R : Addr → Prop) (ps ks : List Str) (gV : List V → List V → List V) (sp : Addr → Sp) : Prop := ∀ C, R C → ∃ g fd gg, StX.CallO X.K C g ∧ FnOk X.prog X.w X.K X.mg X.base CX k g fd ps (sp C) ∧ KBn X.K fd ps 1 ks gg gV
def tCallF (X : Cx) (R : Addr → Prop) (sp : Addr → Sp) (E : XK) (tf : TE) (t : TA) : TE := fun σ H Q => tf σ H fun y H1 => ∃ a C, y = V.ref a ∧ R C ∧ t σ H1 fun vs H2 => StX.InsC X H2 a C ∧ sp C (.ref a :: vs) H2 Q E
def tCallFK (X : Cx) (R : Addr → Prop) (n : Nat) (sp : Addr → Sp) (gV : List V → List V → List V) (E : XK) (tf : TE) (tk : TA) : TE := fun σ H Q => tf σ H fun y H1 => ∃ a C, y = V.ref a ∧ R C ∧ tk σ H1 fun zs H2 => zs.length = n ∧ StX.InsC X H2 a C ∧ sp C (gV [.ref a] zs) H2 Q E
section
variable {X : Cx} {CX : CXT} {k : Nat} {R : Addr → Prop} {m : Str} {ps ks : List Str} {sp : Addr → Sp} {E : XK} {o fe e : Expr} {es : List Expr} {kws : List Keyword} {ta tf : TE} {t tk : TA} {apos pos : Pos} {pl : Sem Bool} {gV : List V → List V → List V}
theorem pe_methF (he : PE X o ta) (F : Fam X CX k R m ps sp) (hr : Room k X.A) (hx : Passes CX X E) (ha : PA X (e :: es) t)
    (hst : starEach (e :: es) X.env = (false, eval e X.env) :: starEach es X.env := by rfl) (hpl : (backTo pos (starEach es X.env)).any (·.1) = false := by rfl)
    (ht : eval (.Call (.Attribute o m apos) (e :: es) [] pos) X.env = (do
      let ov ← eval o X.env
      standAt apos.atName
      let (f, first) ← holding [ov] (getMethod ov m pl)
      callWith pos f first (backTo pos (starEach (e :: es) X.env)) (backToKw pos (keywordEach [] X.env))) := by rfl) :
    PE X (.Call (.Attribute o m apos) (e :: es) [] pos) (tMethF R m sp E ta t) := by
  refine ⟨fun pins s σ H Q I h => ?_⟩
  refine PySem.W.methodCall_KW (pl := pl) (thn (he.run pins s σ H _ I h) fun u s1 ⟨x, H1, I1, rx, a, C, dx, fs, ex, ea, hR, l, q⟩ => ?_) ht
  subst ex
  obtain rfl : u = Value.ref a := rx
  obtain ⟨g, fd, F1⟩ := F C hR
  refine getmeth_ok I1 ea F1.cl F1.m l ?_
  refine PySem.W.callWith_K (first := [.ref a]) (h₀ := X.base) I.ok.mod.kin F1.m.kp (thn (ha.run pos pins s1 σ H1 _ I1 q) fun us s2 ⟨vs, H2, I2, r, q2⟩ => ⟨I2.kIn, ?_⟩) hst hpl
  exact run_fn (us := .ref a :: us) (vs := .ref a :: vs) F1.ok hr F1.b .nil hx I2 (.cons rfl r) (by rw [List.append_nil]; exact q2)
theorem pe_methFK (he : PE X o ta) (F : FamK X CX k R m ps ks gV sp) (hr : Room k X.A) (hx : Passes CX X E) (hkw : PK X kws tk)
    (hall : (backToKw pos (keywordEach kws X.env)).all (·.1.isSome) = true := by rfl) (hks : (backToKw pos (keywordEach kws X.env)).filterMap (·.1) = ks := by rfl)
    (hpl : ((backTo pos (starEach [] X.env)).any (·.1) || (backToKw pos (keywordEach kws X.env)).any (·.1.isNone)) = false := by rfl)
    (ht : eval (.Call (.Attribute o m apos) [] kws pos) X.env = (do
      let ov ← eval o X.env
      standAt apos.atName
      let (f, first) ← holding [ov] (getMethod ov m pl)
      callWith pos f first (backTo pos (starEach [] X.env)) (backToKw pos (keywordEach kws X.env))) := by rfl) :
    PE X (.Call (.Attribute o m apos) [] kws pos) (tMethFK R m ks.length sp gV E ta tk) := by
  refine ⟨fun pins s σ H Q I h => ?_⟩
  refine PySem.W.methodCall_KW (pl := pl) (thn (he.run pins s σ H _ I h) fun u s1 ⟨x, H1, I1, rx, a, C, dx, fs, ex, ea, hR, l, q⟩ => ?_) ht
  subst ex
  obtain rfl : u = Value.ref a := rx
  obtain ⟨g, fd, gg, F1, hb⟩ := F C hR
  refine getmeth_ok I1 ea F1.cl F1.m l ?_
  refine PySem.W.callWith_KW0 (h₀ := X.base) I.ok.mod.kin F1.m.kp hall ?_ hpl
  refine thn (hkw.run pos pins s1 σ H1 _ I1 q) fun ws s2 ⟨zs, H2, I2, rz, l1, q2⟩ => ⟨I2.kIn, ?_⟩
  rw [hks]
  exact run_fnN (us := [.ref a]) (vs := [.ref a]) F1.ok hr hb hx I2 (.cons rfl .nil) rz rfl l1 q2
theorem pe_callF (hf : PE X fe tf) (F : FamC X CX k R ps sp) (hr : Room k X.A) (hx : Passes CX X E) (ha : PA X (e :: es) t)
    (ht : eval (.Call fe (e :: es) [] pos) X.env = (do callWith pos (← eval fe X.env) [] (backTo pos (starEach (e :: es) X.env)) (backToKw pos (keywordEach [] X.env))) := by rfl)
    (he : starEach (e :: es) X.env = (false, eval e X.env) :: starEach es X.env := by rfl) (hpl : (backTo pos (starEach es X.env)).any (·.1) = false := by rfl) : PE X (.Call fe (e :: es) [] pos) (tCallF X R sp E tf t) := by
  refine ⟨fun pins s σ H Q I h => ?_⟩
  refine Call_ (thn (hf.run pins s σ H _ I h) fun u s1 ⟨y, H1, I1, ry, a, C, ey, hR, q⟩ => ?_) ht
  subst ey
  obtain rfl : u = Value.ref a := ry
  obtain ⟨g, fd, c, F1, b⟩ := F C hR
  refine StX.callO_with (thn (ha.run pos pins s1 σ H1 _ I1 q) fun us s2 ⟨vs, H2, I2, r, hi, q2⟩ => ?_) he hpl
  obtain ⟨ox, od, J, hd⟩ := StX.insC_at I2 hi
  exact ⟨⟨C, ox, od, J, hd⟩, StX.run_callO c (F1.raw b .nil) hr hx I2 hi r (by rw [List.append_nil]; exact q2)⟩
theorem pe_callFK (hf : PE X fe tf) (F : FamCK X CX k R ps ks gV sp) (hr : Room k X.A) (hx : Passes CX X E) (hkw : PK X kws tk)
    (hall : (backToKw pos (keywordEach kws X.env)).all (·.1.isSome) = true := by rfl) (hks : (backToKw pos (keywordEach kws X.env)).filterMap (·.1) = ks := by rfl)
    (hpl : ((backTo pos (starEach [] X.env)).any (·.1) || (backToKw pos (keywordEach kws X.env)).any (·.1.isNone)) = false := by rfl)
    (ht : eval (.Call fe [] kws pos) X.env = (do callWith pos (← eval fe X.env) [] (backTo pos (starEach [] X.env)) (backToKw pos (keywordEach kws X.env))) := by rfl) : PE X (.Call fe [] kws pos) (tCallFK X R ks.length sp gV E tf tk) := by
  refine ⟨fun pins s σ H Q I h => ?_⟩
  rw [ht]
  refine wpAny_bind (thn (hf.run pins s σ H _ I h) fun u s1 ⟨y, H1, I1, ry, a, C, ey, hR, q⟩ => ?_)
  subst ey
  obtain rfl : u = Value.ref a := ry
  obtain ⟨g, fd, gg, c, F1, hb⟩ := F C hR
  refine callO_ofK hpl (evalArgs_kw2_nil hall (thn (hkw.run pos pins s1 σ H1 _ I1 q) fun ws s2 ⟨zs, H2, I2, rz, l1, hi, q2⟩ => ?_))
  obtain ⟨ox, od, J, hd⟩ := StX.insC_at I2 hi
  refine ⟨⟨C, ox, od, J, hd⟩, ?_⟩
  rw [hks]
  have r2 := hb.rel (show Vals [V.ref a] [Value.ref a] from .cons rfl .nil) rz
  have hbb := hb.to s2 [.ref a] ws I2.kIn rfl (rz.length.symm.trans l1)
  refine wpAny_call (PySem.W.kco_code I2.kIn J hd c.at_ c.fn c.fi (codeAny_mono (F1.run X.A X.stack s2 H2 ⟨[.ref a], ks.zip ws⟩ (gg [.ref a] ws) (gV [.ref a] zs) Q E hr I2.env0 hbb r2 q2) fun r s' hq => ?_))
  cases r with
  | error e => exact hx pins σ H2 s2 e s' I2 hq
  | ok fl =>
    cases fl with
    | ret u => exact I2.after hq
    | next => exact False.elim hq
    | brk => exact False.elim hq
    | cont => exact False.elim hq
end
end SupX
/-! ### tuples of whole numbers of any lengths, in order -/
namespace SrtX
open PySem PyProof.Rows Srt SrtO
def lexI : List Int → List Int → Bool
  | [], [] => false
  | [], _ :: _ => true
  | _ :: _, [] => false
  | x :: xs, y :: ys => if x = y then lexI xs ys else decide (x < y)
theorem lexI_asym : ∀ {x y : List Int}, lexI x y = true → lexI y x = false
  | [], [], h => by cases h
  | [], _ :: _, _ => rfl
  | _ :: _, [], h => by cases h
  | x :: xs, y :: ys, h => by
    unfold lexI at h ⊢
    by_cases e : x = y
    · rw [if_pos e] at h
      rw [if_pos e.symm]
      exact lexI_asym h
    · rw [if_neg e] at h
      rw [if_neg (fun z => e z.symm)]
      have := of_decide_eq_true h
      exact decide_eq_false (by omega)
theorem lexI_tr : ∀ {x y z : List Int}, lexI y x = false → lexI z y = false → lexI z x = false
  | [], [], _, _, h => h
  | [], _ :: _, [], _, h => by cases h
  | [], _ :: _, _ :: _, h1, h2 => rfl
  | _ :: _, [], _, h, _ => by cases h
  | _ :: _, _ :: _, [], _, h => by cases h
  | x :: xs, y :: ys, z :: zs, h1, h2 => by
    unfold lexI at h1 h2 ⊢
    by_cases e1 : y = x
    · rw [if_pos e1] at h1
      by_cases e2 : z = y
      · rw [if_pos e2] at h2
        rw [if_pos (e2.trans e1)]
        exact lexI_tr h1 h2
      · rw [if_neg e2] at h2
        rw [if_neg (fun q => e2 (q.trans e1.symm)), ← e1]
        exact h2
    · rw [if_neg e1] at h1
      have l1 := of_decide_eq_false h1
      by_cases e2 : z = y
      · rw [if_neg (fun q => e1 (e2.symm.trans q)), e2]
        exact h1
      · rw [if_neg e2] at h2
        have l2 := of_decide_eq_false h2
        rw [if_neg (by omega)]
        exact decide_eq_false (by omega)
theorem swo_lexI (k : Value → List Int) : Swo fun v u => lexI (k v) (k u) := ⟨fun _ _ h => lexI_asym h, fun _ _ _ h1 h2 => lexI_tr h1 h2⟩
/-- the value is a tuple of these whole numbers -/
def IsTI (h : Heap) (v : Value) (ns : List Int) : Prop := ∃ (a : Addr) (o : Obj) (its : List Value) (n : Nat), v = .ref a ∧ h.get? a = some o ∧ o.cls = .type "tuple" ∧ o.data = .seq its.toArray n ∧ Paired (fun (i : Int) (u : Value) => ∃ t, u = .int i t) ns its
theorem IsTI.keeps {h h' : Heap} {v : Value} {ns : List Int} (x : IsTI h v ns) (k : ∀ b o, h.get? b = some o → o.cls = .type "tuple" → h'.get? b = some o) : IsTI h' v ns := by
  obtain ⟨a, o, its, n, e, ho, hc, hd, p⟩ := x
  exact ⟨a, o, its, n, e, k _ _ ho hc, hc, hd, p⟩
section
variable {prog : Program} {w : World} {A : Around} {s : Shared}
theorem kat_ints : ∀ {xs ys : List Int} {us vs : List Value} (i : Nat), Paired (fun (i : Int) (u : Value) => ∃ t, u = .int i t) xs us → Paired (fun (i : Int) (u : Value) => ∃ t, u = .int i t) ys vs →
    PySem.W.KatLex prog w A true (decide (xs.length < ys.length)) (fun r s' => s' = s ∧ r = lexI xs ys) (us.zip vs) i s
  | [], [], _, _, i, .nil, .nil => PySem.W.kat_nil ⟨rfl, rfl⟩
  | [], _ :: _, _, _, i, .nil, .cons _ _ => PySem.W.kat_nil ⟨rfl, by rw [List.length_nil, List.length_cons]; exact decide_eq_true (Nat.succ_pos _)⟩
  | _ :: _, [], _, _, i, .cons _ _, .nil => PySem.W.kat_nil ⟨rfl, by rw [List.length_nil]; exact decide_eq_false (Nat.not_lt_zero _)⟩
  | x :: xs, y :: ys, _, _, i, .cons (l₂ := us) h1 t1, .cons (l₂ := vs) h2 t2 => by
    obtain ⟨t, rfl⟩ := h1
    obtain ⟨u, rfl⟩ := h2
    refine PySem.W.kat_cons (SeqAt.EqAt.int_int x t y u prog w _ _ ?_)
    refine PySem.W.kat_go (fun e => ?_) (fun e => ?_)
    · have e : x = y := by simpa using e
      refine PySem.W.kat_yes ?_
      have ih := kat_ints (i + 1) t1 t2
      have el : (xs.length < ys.length) = ((x :: xs).length < (y :: ys).length) := by
        rw [List.length_cons, List.length_cons, Nat.succ_lt_succ_iff]
      have ev : lexI (x :: xs) (y :: ys) = lexI xs ys := by
        rw [lexI, if_pos e]
      rw [ev]
      simp only [List.length_cons, Nat.add_lt_add_iff_right]
      exact ih
    · have e : ¬ x = y := by simpa using e
      have ev : lexI (x :: xs) (y :: ys) = decide (x < y) := by
        rw [lexI, if_neg e]
      rw [ev]
      refine PySem.W.kat_no ?_
      cases hb : (true && i == 0) with
      | true => exact oneLt_int ⟨rfl, rfl⟩
      | false => exact PySem.W.kat_one _ _ (PyProof.Rows.lt_int (show s = s ∧ decide (x < y) = decide (x < y) from ⟨rfl, rfl⟩))
theorem tup_cmp {vs : List Value} {k : Value → List Int} (hp : ∀ v ∈ vs, IsTI s.heap v (k v)) : Cmp prog w A s (tuples' true) (fun p => p.1 ∈ vs) (lt2 fun v u => lexI (k v) (k u)) := by
  intro p q hm hm'
  have h1 := hp _ hm
  have h2 := hp _ hm'
  show wpAny (model prog w) A (keyLt' (tuples' true) p.1 q.1) (fun r s' => s' = s ∧ r = lexI (k p.1) (k q.1)) (fun _ _ => False) s
  generalize k p.1 = x at h1 ⊢
  generalize k q.1 = y at h2 ⊢
  obtain ⟨a, o, its, n, e, ho, hc, hd, p1⟩ := h1
  obtain ⟨a', o', its', n', e', ho', hc', hd', p2⟩ := h2
  rw [e, e']
  refine PySem.W.kat_lt ho hd ho' hd' ?_
  have l1 : its.toArray.size = x.length := by rw [List.size_toArray]; exact (Paired.length p1).symm
  have l2 : its'.toArray.size = y.length := by rw [List.size_toArray]; exact (Paired.length p2).symm
  rw [l1, l2]
  exact kat_ints 0 p1 p2
theorem firstsI {h : Heap} : ∀ {vs : List Value} {k : Value → List Int}, (∀ v ∈ vs, IsTI h v (k v) ∧ k v ≠ []) → ∃ fs : List Value, PySem.W.KatTups h vs fs ∧ fs.length = vs.length ∧ ∀ f ∈ fs, ∃ x t, f = Value.int x t
  | [], _, _ => ⟨[], PySem.W.KatTups.nil, rfl, fun _ hm => by simp at hm⟩
  | v :: vs, k, hp => by
    obtain ⟨fs, h1, h2, h3⟩ := firstsI (vs := vs) (k := k) fun v' hm => hp v' (List.mem_cons_of_mem _ hm)
    obtain ⟨⟨a, o, its, n, e, ho, hc, hd, p⟩, ne⟩ := hp v (List.mem_cons_self ..)
    subst e
    generalize k (.ref a) = ks at p ne
    cases p with
    | nil => exact absurd rfl ne
    | cons hx tl =>
      obtain ⟨t, rfl⟩ := hx
      refine ⟨_ :: fs, PySem.W.KatTups.cons ho hc hd rfl h1, by rw [List.length_cons, List.length_cons, h2], fun f hm => ?_⟩
      rcases List.mem_cons.mp hm with rfl | hm
      · exact ⟨_, t, rfl⟩
      · exact h3 f hm
theorem tups_sortableO {a : Addr} {vs : List Value} {k : Value → List Int} (h0 : 0 < vs.length) (hp : ∀ v ∈ vs, IsTI s.heap v (k v) ∧ k v ≠ []) (ha : ∀ o, s.heap.get? a = some o → o.cls ≠ .type "tuple") : SortableO prog w A s a vs fun v u => lexI (k v) (k u) := by
  intro h' keep
  have hp' : ∀ v ∈ vs, IsTI h' v (k v) ∧ k v ≠ [] := fun v hm => ⟨(hp v hm).1.keeps fun b o e c => keep b o (fun z => by subst z; exact ha o e c) e, (hp v hm).2⟩
  obtain ⟨fs, h1, h2, h3⟩ := firstsI hp'
  refine ⟨tuples' true, fun Q E hq => ?_, tup_cmp fun v hm => (hp' v hm).1⟩
  refine PySem.W.kat_kind (T := .type "int") h1 (by omega) (fun f hm => ?_) (by rfl) ?_
  · obtain ⟨x, t, rfl⟩ := h3 f hm
    exact PySem.W.Looks.now
  · have e : (Value.type "int" != Value.type "tuple") = true := by first | decide +kernel | rfl | decide
    rw [e]
    exact hq
end
end SrtX
/-! ### dict(d) and sorted(d) of dicts with tuple keys -/
namespace SupX
open PySem PySem.Spec PyProof.Rows L2
def kHash (k : List Key) : Int := reduceHash (Builtin.Tuple.tupleHashOf (k.map fun x => match x with
  | .inl i => hashInt i
  | .inr _ => 0))
def intKey (k : List Key) : Prop := ∀ x ∈ k, ∃ i, x = Sum.inl i
theorem kHash_of {P : Program} {w : World} {k : List Key} (h : intKey k) : (tupleKind (mixKind P w)).hash k = kHash k := by
  show reduceHash (Builtin.Tuple.tupleHashOf (k.map (mixKind P w).hash)) = _
  unfold kHash
  have e : k.map (mixKind P w).hash = k.map fun x => match x with
      | .inl i => hashInt i
      | .inr _ => 0 := by
    refine List.map_congr_left fun x hx => ?_
    obtain ⟨i, rfl⟩ := h x hx
    rfl
  rw [e]
section
variable {X : Cx}
theorem paired_map {α β γ : Type} {F : α → β → Prop} {f : α → γ} {g : β → γ} (h : ∀ a b, F a b → f a = g b) : ∀ {l₁ : List α} {l₂ : List β}, Paired F l₁ l₂ → l₁.map f = l₂.map g
  | _, _, .nil => rfl
  | _, _, .cons r t => by rw [List.map_cons, List.map_cons, h _ _ r, paired_map h t]
theorem paired_mem {α β : Type} {F : α → β → Prop} : ∀ {l₁ : List α} {l₂ : List β}, Paired F l₁ l₂ → ∀ b ∈ l₂, ∃ a ∈ l₁, F a b
  | _, _, .nil, b, h => by cases h
  | _, _, .cons (a := a0) r t, b, h => by
    rcases List.mem_cons.mp h with rfl | h
    · exact ⟨_, List.mem_cons_self, r⟩
    · obtain ⟨a, m, f⟩ := paired_mem t b h
      exact ⟨a, List.mem_cons_of_mem _ m, f⟩
theorem call_dictH {K : Type} [DecidableEq K] {prog : Program} {w : World} {knd : HeapKind prog w K} {A : Around} {E : Value → Shared → Prop} {s : Shared} {o : Addr} {more : List (K × Addr × Value)} {Q : Value → Shared → Prop} (hu : knd.room A.in1.in1) (hoS : (o == sysModules) = false) (ho : s.heap.DictOfH knd o more) (hsz : more.length ≤ sizeLine)
    (hty : ∀ x ∈ more, s.TypeIs (.ref x.2.1) "tuple") (hap : (more.map fun x => knd.hash x.1).Nodup) (his : ∀ x ∈ more, knd.is (s.heap.push { cls := .type "dict", data := .dict #[] }) x.1 x.2.1)
    (h : ∀ h', h'.DictOfH knd s.heap.objs.size more → Heap.SameBut s.heap.objs.size (s.heap.push { cls := .type "dict", data := .dict #[] }) h' → Q (.ref s.heap.objs.size) { s with heap := h' }) :
    wpAny (model prog w) A (call (.type "dict") [.ref o]) Q E s := by
  refine callType_codes (Q₁ := fun obj s₁ => obj = .ref s.heap.objs.size ∧ s₁ = { s with heap := s.heap.push { cls := .type "dict", data := .dict #[] } }) F.kt_called_dict (F.kt_typeCall_dict_1 _) F.entry_dict_init (kt_code_dict_new _ ⟨rfl, rfl⟩) ?_
  rintro obj s₁ ⟨rfl, rfl⟩
  have hgn : (s.heap.push { cls := .type "dict", data := .dict #[] }).get? s.heap.objs.size = some { cls := .type "dict", data := .dict #[] } := Heap.get?_push_size _ rfl
  have hnew : (s.heap.push { cls := .type "dict", data := .dict #[] }).DictOfH knd s.heap.objs.size [] := ⟨_, #[], _, hgn, ⟨rfl, rfl, rfl⟩, rfl, rfl, (fun x hx => absurd hx (by simp)), List.nodup_nil⟩
  have ho' : (s.heap.push { cls := .type "dict", data := .dict #[] }).DictOfH knd o more := by
    obtain ⟨oo, es, ep, h1, h2, h3, h4, h5, h6⟩ := ho
    exact ⟨oo, es, ep, Heap.get?_push_of_some _ h1, h2, h3, h4, his, h6⟩
  have hn : (more.map (·.1)).Nodup := ho.nodup
  have hdo : s.heap.objs.size ≠ o := by
    obtain ⟨_, _, _, hg, _⟩ := ho
    exact fun e => absurd (Heap.lt_size hg) (by rw [e]; exact Nat.lt_irrefl _)
  have hT : ({ s with heap := s.heap.push { cls := .type "dict", data := .dict #[] } } : Shared).TypeIs (.ref s.heap.objs.size) "dict" := ⟨_, hgn, rfl⟩
  refine ⟨hT, F.args_dict_init_2 _ _, ?_⟩
  unfold Builtin.«dict.__init__»
  refine wpAny_bind ?_
  unfold Builtin.Dict.selfAndRest
  refine wpAny_bind (wpAny_notOrdered_dict hT ?_)
  show wpAny _ _ (pure (s.heap.objs.size, [Value.ref o])) _ _ _
  refine wpAny_pure ?_
  show wpAny _ _ (Builtin.Dict.updateFrom "dict.__init__" s.heap.objs.size (.ref o) [] .none) _ _ _
  unfold Builtin.Dict.updateFrom
  refine wpAny_bind (wpAny_typeOf ho'.typeIs ?_)
  rw [if_neg (by decide)]
  refine wpAny_bind ?_
  unfold Builtin.Dict.merge
  refine wpAny_bind ?_
  unfold Builtin.Dict.readDirectly
  refine wpAny_bind (wpAny_isInstance ho'.typeIs isSubtype_dict_dict ?_)
  simp only [Bool.not_true, Bool.false_eq_true, if_false]
  refine wpAny_bind (wpAny_specialOf ho'.typeIs F.slot_dict_iter.lookup (wpAny_pure ?_))
  simp only [beq_self_eq_true, if_true]
  refine wpAny_bind (wpAny_pure ?_)
  have hty' : ∀ x ∈ more, ({ s with heap := s.heap.push { cls := .type "dict", data := .dict #[] } } : Shared).TypeIs (.ref x.2.1) "tuple" := fun x hx => by
    obtain ⟨o2, e1, e2⟩ := hty x hx
    exact ⟨o2, Heap.get?_push_of_some _ e1, e2⟩
  refine wpAny_mergeDict_heap (hsz := by simpa using hsz) hu hdo hoS hnew ho' (.inr ⟨hty', hap⟩) fun h' hd' _ hs' => ?_
  show wpAny _ _ (Builtin.Dict.addKeywords s.heap.objs.size [] >>= _) _ _ _
  rw [storedAllH_nil_of_nodup more hn] at hd'
  exact wpAny_bind (wpAny_pure (wpAny_pure ⟨rfl, h h' hd' hs'⟩))
/-- dict(d), the keys tuples of ints with different hashes: a copy -/
theorem call_dictT (hu : X.A.units + 64 < cLine) : CallR X (.type "dict") (fun xs H Q => ∃ (a : Addr) (kvs : List (List Key × V)), xs = [.ref a] ∧ Rd H a (.dT kvs) ∧ (∀ p ∈ kvs, intKey p.1) ∧ (kvs.map fun p => kHash p.1).Nodup ∧ ∀ p, H p = none → Q (.ref p) (upd H p (.dT kvs))) := by
  intro pins s σ H xs us Q I r q
  obtain ⟨a, kvs, ex, hd, hik, hnd, q⟩ := q
  subst ex
  obtain ⟨u, eu, rx⟩ := vals1 r
  subst eu
  cases rx
  obtain ⟨z, lo, ks, pr, dd⟩ := dt_rd I.hok hd
  have hlen : kvs.length = ks.length := Paired.length pr
  have hm : (s.heap.objs.size == sysModules) = false := beq_eq_false_iff_ne.mpr (Nat.ne_of_gt I.big)
  have tup : ∀ x ∈ ks, H x.2.1 = some (.tup (x.1.map kV)) := fun x hx => by
    obtain ⟨p, _, e1, e2, _⟩ := paired_mem pr x hx
    rw [← e1]
    exact e2
  have hh : (ks.map fun x => (tupleKind (mixKind X.prog X.w)).hash x.1) = kvs.map fun p => kHash p.1 := by
    refine (paired_map (F := fun p q => (p.1 = q.1 ∧ H q.2.1 = some (.tup (p.1.map kV)) ∧ RelV p.2 q.2.2) ∧ p ∈ kvs) (fun p x hp => ?_) ?_).symm
    · rw [← hp.1.1, kHash_of (hik p hp.2)]
    · have go : ∀ {l : List (List Key × V)} {m : List (List Key × Addr × Value)}, KT H l m → (∀ p ∈ l, p ∈ kvs) → Paired (fun p q => (p.1 = q.1 ∧ H q.2.1 = some (.tup (p.1.map kV)) ∧ RelV p.2 q.2.2) ∧ p ∈ kvs) l m := by
        intro l m r
        induction r with
        | nil => exact fun _ => .nil
        | cons h t ih => exact fun hm => .cons ⟨h, hm _ List.mem_cons_self⟩ (ih fun p hp => hm p (List.mem_cons_of_mem _ hp))
      exact go pr fun _ h => h
  have I1 : ∀ b o, s.heap.get? b = some o → (s.heap.push { cls := .type "dict", data := .dict #[] }).get? b = some o := fun b o e => Heap.get?_push_of_some _ e
  refine call_dictH (show X.A.in1.in1.units < cLine from Nat.lt_of_le_of_lt (show X.A.units + 2 ≤ X.A.units + 64 by omega) hu) lo dd (by rw [← hlen]; exact z) (fun x hx => ?_) (by rw [hh]; exact hnd) (fun x hx => key_of (I.hok.kept I1) (tup x hx)) fun h' d' hs => ?_
  · obtain ⟨_, its, _, o, h1, h2, _⟩ := I.hok _ _ (tup x hx)
    exact ⟨o, h1, h2⟩
  · refine ⟨.ref s.heap.objs.size, upd H s.heap.objs.size (.dT kvs), I.laid (t' := s.toks) (fun b u e => (hs.2 b (Nat.ne_of_lt (Heap.lt_size e))).trans (Heap.get?_push_of_some _ e)) (Nat.le_refl _) ?_, rfl, q _ (I.hok.fresh (Nat.le_refl _))⟩
    obtain ⟨o, es, ep, e1, e2, e3, e4, _, e6⟩ := d'
    refine ⟨z, hm, ks, ?_, o, es, ep, e1, e2, e3, e4, e6⟩
    exact pr.keeps fun b ys e => by rw [upd_ne (ne_of_none e (I.hok.fresh (Nat.le_refl _)))]; exact e
end
end SupX
namespace SupX
open PySem PySem.Spec PyProof.Rows L2
/-- the whole numbers of a tracked tuple -/
def intsAt (H : Hp) (v : Value) : List Int := match v with
  | .ref b => (match H b with
    | some (.tup xs) => xs.map fun x => match x with
      | .int i => i
      | _ => 0
    | _ => [])
  | _ => []
def keyInts (k : List Key) : List Int := k.map fun x => match x with
  | .inl i => i
  | .inr _ => 0
section
variable {X : Cx}
theorem intsAt_key {H : Hp} {b : Addr} {k : List Key} (h : H b = some (.tup (k.map kV))) (hi : intKey k) : intsAt H (.ref b) = keyInts k := by
  unfold intsAt keyInts
  simp only [h]
  rw [List.map_map]
  refine List.map_congr_left fun x hx => ?_
  obtain ⟨i, rfl⟩ := hi x hx
  rfl
theorem isTI_key {pins : List (Addr × Obj)} {σ : L2.St} {H : Hp} {s : Shared} {b : Addr} {k : List Key} (I : Inv X pins σ H s) (h : H b = some (.tup (k.map kV))) (hi : intKey k) : SrtX.IsTI s.heap (.ref b) (intsAt H (.ref b)) := by
  rw [intsAt_key h hi]
  obtain ⟨_, its, r, o, h1, h2, n, h3⟩ := I.hok _ _ h
  refine ⟨b, o, its, n, rfl, h1, h2, h3, ?_⟩
  have go : ∀ {k : List Key} {its : List Value}, intKey k → Vals (k.map kV) its → Paired (fun (i : Int) (u : Value) => ∃ t, u = .int i t) (keyInts k) its := by
    intro k
    induction k with
    | nil => intro its _ r; cases r; exact .nil
    | cons x k ih =>
      intro its hi r
      cases r with
      | cons h t =>
        obtain ⟨i, rfl⟩ := hi x List.mem_cons_self
        exact .cons h (ih (fun y hy => hi y (List.mem_cons_of_mem _ hy)) t)
  exact go hi r
/-- sorted(d) of a dict whose keys are tuples of ints -/
theorem call_sortedT (hc : X.calm = true) : CallR X (.builtin "sorted") (fun xs H Q => ∃ (a : Addr) (kvs : List (List Key × V)), xs = [.ref a] ∧ Rd H a (.dT kvs) ∧ (∀ p ∈ kvs, intKey p.1 ∧ p.1 ≠ []) ∧
    ∀ (ys : List V) (p : Addr) (bs : List Addr), IsKeys H kvs bs → ys.Perm (bs.map V.ref) → H p = none → Q (.ref p) (upd H p (.lst ys))) := by
  intro pins s σ H xs us Q I r h
  obtain ⟨d, kvs, rfl, hd, hik, q⟩ := h
  obtain ⟨u, rfl, rx⟩ := r.one
  cases rx
  obtain ⟨z, hs, ks, pr, o, es, ep, ho, hx, hdt, he, hn⟩ := (show ObjOk X.prog X.w H s.heap d (.dT kvs) from hd.ok I.hok)
  have l1 : es.size = ks.length := size_of_entries he
  have l2 : kvs.length = ks.length := Paired.length pr
  refine Calls.call_function_entry PyProof.Rows.kind_sorted PyProof.Rows.plain_sorted PyProof.Rows.entry_sorted (PyProof.Rows.args_sorted1 _) ?_
  unfold Builtin.«sorted»
  refine wpAny_bind (m := checkCount "sorted" 1 1 _) (wpAny_pure ?_)
  refine wpAny_bind (PySem.W.kdu_collect (A := X.A.in1) (kdl_raw hs hx hdt) (I.ok.hd hc) ho (by omega) fun h' tk acc' hk it => ?_)
  have ea : acc'.toList = ks.map fun x => Value.ref x.2.1 := by
    have hl : acc'.toList.length = ks.length := by rw [Array.length_toList, it.1]; exact l1
    apply List.ext_getElem?
    intro j
    rw [List.getElem?_map]
    cases hj : acc'.toList[j]? with
    | none =>
      have h1 := List.getElem?_eq_none_iff.mp hj
      rw [List.getElem?_eq_none (by omega)]
      all_goals rfl
    | some v =>
      obtain ⟨en, hen, hv⟩ := it.2 j v (by rw [← Array.getElem?_toList]; exact hj)
      have qe := entry_at he j
      rw [hen] at qe
      cases hb : ks[j]? with
      | none =>
        rw [hb] at qe
        exact nomatch (show some en = none from qe)
      | some b =>
        rw [hb] at qe
        have e2 : en = entryOfKey (tupleKind (mixKind X.prog X.w)) b := Option.some.inj qe
        rw [hv, e2]
        all_goals rfl
  have eb : acc'.toList = (ks.map fun x => x.2.1).map Value.ref := by rw [ea, List.map_map]; all_goals rfl
  have I1 : Inv X pins σ H { s with heap := h', toks := tk } := I.kept hk
  have hlen : acc'.toList.length ≤ sizeLine := by rw [ea, List.length_map]; omega
  refine wpAny_bind (wpAny_newList ?_ hlen)
  have hoL : (h'.push (seqObj "list" acc'.toList.toArray 0)).get? h'.objs.size = some (seqObj "list" acc'.toList.toArray 0) := Heap.get?_push_size _ rfl
  have I2 : Inv X pins σ H { s with heap := h'.push (seqObj "list" acc'.toList.toArray 0), toks := tk } := I1.kept (t' := tk) fun b o e => Heap.get?_push_of_some _ e
  show wpAny _ _ _ _ _ { s with heap := h'.push (seqObj "list" acc'.toList.toArray 0), toks := tk }
  have tis : ∀ v ∈ acc'.toList, SrtX.IsTI (h'.push (seqObj "list" acc'.toList.toArray 0)) v (intsAt H v) ∧ intsAt H v ≠ [] := fun v hv => by
    rw [ea] at hv
    obtain ⟨x, hx, rfl⟩ := List.mem_map.mp hv
    obtain ⟨p, hp, e1, e2, _⟩ := paired_mem pr x hx
    refine ⟨isTI_key I2 e2 (hik p hp).1, ?_⟩
    rw [intsAt_key e2 (hik p hp).1]
    intro e
    refine (hik p hp).2 ?_
    unfold keyInts at e
    exact List.map_eq_nil_iff.mp e
  refine wpAny_bind (wpAny_holding (wpAny_call_entry PyProof.Rows.slot_list_sort ⟨_, hoL, rfl⟩ PyProof.Rows.entry_list_sort
    (SrtO.list_sort_ord (s := { s with heap := h'.push (seqObj "list" acc'.toList.toArray 0), toks := tk }) (SrtX.swo_lexI (intsAt H)) hoL hlen (fun h2 => SrtX.tups_sortableO (by omega) tis fun o e => ?_) fun out hso hb => ⟨_, rfl, ?_⟩)
    (PyProof.Rows.args_list_sort _)))
  · have e' : some o = some (seqObj "list" acc'.toList.toArray 0) := e.symm.trans hoL
    cases e'
    intro c
    exact absurd (Value.type.inj c) (by decide)
  · obtain ⟨e', he'⟩ := PyProof.Rows.sortedHeap_at (vs := acc'.toList) (out := out.toArray) hoL
    have h3 : ∀ u ∈ out, ∃ a, u = Value.ref a := fun u hu => by
      have := hb.perm.mem_iff.mp hu
      rw [ea] at this
      obtain ⟨x, _, rfl⟩ := List.mem_map.mp this
      exact ⟨_, rfl⟩
    have hp2 : (out.map bkV).Perm ((ks.map fun x => x.2.1).map V.ref) := by
      have := hb.perm.map bkV
      rw [eb, List.map_map] at this
      exact this
    have hlen2 : (out.map bkV).length ≤ sizeLine := by
      rw [hp2.length_eq, List.length_map, List.length_map]
      omega
    refine wpAny_pure ⟨_, rfl, .ref h'.objs.size, upd H h'.objs.size (.lst (out.map bkV)), I1.laid (t' := tk) (fun b u e => ?_) (Nat.le_refl _) ⟨hlen2, out, e', bkV_vals h3, he'⟩, rfl, q _ _ _ (isKeys_of pr) hp2 (I1.hok.fresh (Nat.le_refl _))⟩
    have hb : b < h'.objs.size := Heap.lt_size e
    rw [PyProof.Rows.sortedHeap_old (Nat.ne_of_lt hb) (by rw [size_push']; exact Nat.lt_succ_of_lt hb)]
    exact Heap.get?_push_of_some _ e
end
end SupX
namespace XV
open PySem PySem.W PySem.Calls PySem.Builtin PySem.Builtin.ObjectAttr PyProof.Rows PySem.HandSPX
/-- own classes, then the base's mro -/
def refsT (tail : List Value) : List Value → Bool
  | .ref _ :: r => refsT tail r
  | l => l == tail
theorem refsT_cases {tail : List Value} : ∀ l : List Value, refsT tail l = true → (∃ c r, l = .ref c :: r ∧ refsT tail r = true) ∨ l = tail
  | [], e => .inr (beq_iff_eq.mp e)
  | .ref c :: r, e => .inl ⟨c, r, rfl, e⟩
  | .none :: _, e => .inr (beq_iff_eq.mp e)
  | .ellipsis :: _, e => .inr (beq_iff_eq.mp e)
  | .notImplemented :: _, e => .inr (beq_iff_eq.mp e)
  | .bool _ :: _, e => .inr (beq_iff_eq.mp e)
  | .int _ _ :: _, e => .inr (beq_iff_eq.mp e)
  | .float _ _ :: _, e => .inr (beq_iff_eq.mp e)
  | .str _ _ :: _, e => .inr (beq_iff_eq.mp e)
  | .bytes _ _ :: _, e => .inr (beq_iff_eq.mp e)
  | .type _ :: _, e => .inr (beq_iff_eq.mp e)
  | .builtin _ :: _, e => .inr (beq_iff_eq.mp e)
/-- what the base's mro must keep -/
structure TailOk (tail : List Value) : Prop where
  pass : ∀ self, refuseLoop self "__setattr__" tail = pure ()
  obj : tail.contains (.type "object") = true
theorem TailOk.ne {tail : List Value} (T : TailOk tail) : tail ≠ [] := fun e => by
  have h := T.obj
  rw [e] at h
  cases h
theorem refsT_pass {tail : List Value} (T : TailOk tail) (self : Value) : ∀ l : List Value, refsT tail l = true → refuseLoop self "__setattr__" l = pure () := by
  intro l
  induction l with
  | nil => intro e; exact absurd (beq_iff_eq.mp e).symm T.ne
  | cons a r ih =>
    intro e
    rcases refsT_cases (a :: r) e with ⟨c, r', q, h⟩ | q
    · obtain ⟨rfl, rfl⟩ := List.cons.inj q
      rw [refuseLoop_ref]; exact ih h
    · rw [q]; exact T.pass self
theorem refsT_contains {tail : List Value} (T : TailOk tail) (X : String) : ∀ l : List Value, refsT tail l = true → l.contains (.type X) = tail.contains (.type X) := by
  intro l
  induction l with
  | nil => intro e; exact absurd (beq_iff_eq.mp e).symm T.ne
  | cons a r ih =>
    intro e
    rcases refsT_cases (a :: r) e with ⟨c, r', q, h⟩ | q
    · obtain ⟨rfl, rfl⟩ := List.cons.inj q
      rw [List.contains_cons, ih h]; rfl
    · rw [q]
theorem refsT_ne {tail l : List Value} (T : TailOk tail) (e : refsT tail l = true) : l.isEmpty = false := by
  cases l with
  | nil => exact absurd (beq_iff_eq.mp e).symm T.ne
  | cons _ _ => rfl
abbrev tailVE : List Value := [.type "ValueError", .type "Exception", .type "BaseException", .type "object"]
abbrev tailLE : List Value := [.type "LookupError", .type "Exception", .type "BaseException", .type "object"]
abbrev tailIE : List Value := [.type "IndexError", .type "LookupError", .type "Exception", .type "BaseException", .type "object"]
theorem tailVE_ok : TailOk tailVE := ⟨F.store_ValueError.passes, by decide +kernel⟩
theorem tailLE_ok : TailOk tailLE := ⟨F.store_LookupError.passes, by decide +kernel⟩
theorem tailIE_ok : TailOk tailIE := ⟨F.store_IndexError.passes, by decide +kernel⟩
section
variable {prog : Program} {w : World} {A : Around} {E : Value → Shared → Prop} {R : Result → Shared → Prop} {hp : Heap} {g : Array GenState} {d : Drawn} {t : Nat} {os : OsState}
theorem exc_osaT {K : W.Frag} {name : Str} {tk : Tok} {v : Value} {x C : Addr} {fv : Array Value} {cd : ClassData} {tail : List Value} (T : TailOk tail)
    (X : K.In hp) (hx : hp.get? x = some { cls := .ref C, data := .fields fv }) (hcd : W.clsIn K C = some cd) (hm : refsT tail cd.mro = true) (hh : cd.hasDict = true) (ha : W.findIn K (.ref C) name = some none)
    (hq : ∀ h' tk' dx, (∀ b o, b ≠ x → hp.get? b = some o → h'.get? b = some o) → hp.objs.size ≤ dx → dx ≠ x → h'.get? x = some { cls := .ref C, dict := some dx, data := .fields fv } →
      h'.Ns1 dx (fun y => if y = name then some v else none) → R (.ok (.ret .none)) ⟨h', g, d, tk', os⟩) :
    codeAny (model prog w) A (.call (.builtin "object.__setattr__") ⟨[.ref x, .str name tk, v], []⟩) R ⟨hp, g, d, t, os⟩ := by
  have I : W.InstAt hp x { cls := .ref C, data := .fields fv } C none := ⟨hx, rfl, rfl, trivial⟩
  have SF := F.store_object
  have ne := refsT_ne T hm
  have hob : cd.mro.contains (.type "object") = true := (refsT_contains T "object" _ hm).trans T.obj
  have hxs : x ≠ hp.objs.size := Nat.ne_of_lt (Heap.lt_size hx)
  have sub : W.Looks (model prog w) hp (isInstance (.ref x) (.type "object")) true := I.type.andThen (W.looks_mroIn X (by unfold W.mroIn; rw [hcd, Option.bind_some, if_neg (by rw [ne]; decide), hob]))
  refine codeAny_call_builtin SF.slot.plain SF.entry (@W.check_slot (model prog w) _ _ ⟨hp, g, d, t, os⟩ "object.__setattr__" "object" "__setattr__" (.ref x) [.str name tk, v] [] _ SF.kind SF.split sub (SF.args (.ref x) (.str name tk) v) ?_)
  have hmr : W.Looks (model prog w) hp (mroOf (.ref C)) cd.mro := (W.looks_clsIn X hcd).andThen .now
  have L3 : W.Looks (model prog w) hp (storeTaker? none) none := .now
  have hcls : W.Looks (model prog w) hp (classData C) cd := W.looks_clsIn X hcd
  rw [W.osa_eq, refuse_eq]
  refine wpAny_bind (wpAny_bind (I.type.at (wpAny_bind (hmr.at ?_))))
  rw [refsT_pass T _ _ hm]
  refine wpAny_pure (wpAny_bind (I.type.at (wpAny_bind ((W.looks_findIn X ha).at (wpAny_bind (L3.at ?_))))))
  show wpAny _ _ (storeInOwnDict (.ref x) (.ref C) (.str name tk) name v false) _ _ _
  obtain ⟨nm, bs, mro, ns, qn, hd, sn, sb, ab, col, del⟩ := cd
  dsimp only at hh
  subst hh
  unfold storeInOwnDict ownDictForStores
  repeat (first | with_reducible refine store_in_new ?_ ?_ | with_reducible refine wpAny_loadPart_at hx ?_ | with_reducible refine hcls.at ?_ | wp_step)
  · exact ⟨_, #[], _, (Heap.get?_update_ne _ _ _ _ hxs.symm).trans (Heap.get?_push_at rfl rfl), rfl, fun e he => absurd he (by simp), fun _ => rfl⟩
  · intro h' tk' hn' hs
    have hx₁ : (hp.push { cls := .type "dict", data := .dict #[] }).get? x = some { cls := .ref C, data := .fields fv } := Heap.get?_push_of_some _ hx
    refine hq h' tk' hp.objs.size (fun b o hb ho => ?_) (Nat.le_refl _) hxs.symm ?_ hn'
    · exact (hs.2 b (Nat.ne_of_lt (Heap.lt_size ho))).trans ((Heap.get?_update_ne _ _ _ _ hb).trans (Heap.get?_push_of_some _ ho))
    · exact (hs.2 x hxs).trans (Heap.get?_update_self _ hx₁ rfl)
theorem osa_oldT {K : W.Frag} {name : Str} {tk : Tok} {v : Value} {x C dx : Addr} {fv : Array Value} {cd : ClassData} {m0 : Str → Option Value} {nl : List Str} {tail : List Value} (T : TailOk tail)
    (X : K.In hp) (hx : hp.get? x = some { cls := .ref C, dict := some dx, data := .fields fv }) (hns : hp.Ns1 dx m0) (hw : Within m0 nl) (hz : nl.length ≤ 1000) (hcd : W.clsIn K C = some cd) (hm : refsT tail cd.mro = true) (hh : cd.hasDict = true)
    (ha : W.findIn K (.ref C) name = some none)
    (hq : ∀ h' tk', (∀ b o, b ≠ dx → hp.get? b = some o → h'.get? b = some o) → h'.Ns1 dx (fun y => if y = name then some v else m0 y) → R (.ok (.ret .none)) ⟨h', g, d, tk', os⟩) :
    codeAny (model prog w) A (.call (.builtin "object.__setattr__") ⟨[.ref x, .str name tk, v], []⟩) R ⟨hp, g, d, t, os⟩ := by
  obtain ⟨oD, esD, epD, hoD, hdD, _⟩ := hns.count hw
  have I : W.InstAt hp x { cls := .ref C, dict := some dx, data := .fields fv } C (some oD) := ⟨hx, rfl, rfl, hoD⟩
  have SF := F.store_object
  have ne := refsT_ne T hm
  have hob : cd.mro.contains (.type "object") = true := (refsT_contains T "object" _ hm).trans T.obj
  have sub : W.Looks (model prog w) hp (isInstance (.ref x) (.type "object")) true := I.type.andThen (W.looks_mroIn X (by unfold W.mroIn; rw [hcd, Option.bind_some, if_neg (by rw [ne]; decide), hob]))
  refine codeAny_call_builtin SF.slot.plain SF.entry (@W.check_slot (model prog w) _ _ ⟨hp, g, d, t, os⟩ "object.__setattr__" "object" "__setattr__" (.ref x) [.str name tk, v] [] _ SF.kind SF.split sub (SF.args (.ref x) (.str name tk) v) ?_)
  have hmr : W.Looks (model prog w) hp (mroOf (.ref C)) cd.mro := (W.looks_clsIn X hcd).andThen .now
  have L3 : W.Looks (model prog w) hp (storeTaker? none) none := .now
  have hcls : W.Looks (model prog w) hp (classData C) cd := W.looks_clsIn X hcd
  rw [W.osa_eq, refuse_eq]
  refine wpAny_bind (wpAny_bind (I.type.at (wpAny_bind (hmr.at ?_))))
  rw [refsT_pass T _ _ hm]
  refine wpAny_pure (wpAny_bind (I.type.at (wpAny_bind ((W.looks_findIn X ha).at (wpAny_bind (L3.at ?_))))))
  show wpAny _ _ (storeInOwnDict (.ref x) (.ref C) (.str name tk) name v false) _ _ _
  obtain ⟨nm, bs, mro, ns, qn, hd, sn, sb, ab, col, del⟩ := cd
  dsimp only at hh
  subst hh
  unfold storeInOwnDict ownDictForStores
  repeat (first | with_reducible refine PySem.OEX.store_in_old hns hw hz ?_ | with_reducible refine wpAny_loadPart_at hx ?_ | with_reducible refine hcls.at ?_ | wp_step)
  intro h' tk' hn' hs
  exact hq h' tk' (fun b o hb ho => (hs.2 b hb).trans ho) hn'
end
end XV
namespace L2
open PySem PySem.Spec PyProof.Rows XV
/-- what the written part says of an own exception class with an own __init__ -/
structure OexG (K : PySem.W.Frag) (C : Addr) : Prop where
  cls : ∃ B nid iid tail nm q N bs bm sn sub ab col dd k0 k1 k2 k3 k5, ExcBaseFacts B nid iid tail ∧ TailOk tail ∧ K.lookup C = some (excClassObj nm q C N bs bm true sn sub ab col dd k0 k1 k2 k3 k5 nid) ∧ refsT tail bm = true
  sa : PySem.W.findIn K (.ref C) "__setattr__" = some (some (.builtin "object.__setattr__"))
  exC : PySem.W.subIn K (.ref C) (.type "BaseException") = some true
  tyC : PySem.W.typeIn K (.ref C) = some (.type "type")
  kC : PySem.W.keepIn K (.ref C) = true
section
variable {X : Cx} {pins : List (Addr × Obj)} {σ : St} {H : Hp} {s : Shared} {a C dx : Addr} {f : Str} {y : V} {u : Value} {fs : List (Str × V)} {Q : Unit → Shared → Prop} {E : Value → Shared → Prop} {A : Around}
theorem ostG_new (T : OexG X.K C) (I : Inv X pins σ H s) (e : H a = some (exo a C none)) (hno : PySem.W.findIn X.K (.ref C) f = some none) (ry : RelV y u)
    (h : ∀ dx s', H dx = none → dx ≠ a → Inv X pins σ (upd (upd H dx (exd dx [(f, y)])) a (exo a C (some dx))) s' → Q () s') : wpAny (model X.prog X.w) A (setAttr (.ref a) f u) Q E s := by
  obtain ⟨B, nid, iid, tail, nm, q, N, bs, bm, sn, sub, ab, col, dd, k0, k1, k2, k3, k5, _, TO, hC, hbm⟩ := T.cls
  have hcl : PySem.W.clsIn X.K C = some { name := nm, bases := bs, mro := .ref C :: bm, ns := N, qualname := q, hasDict := true, slotNames := sn, subclasses := sub, abstract := ab, collection := col, hasDel := false } := by unfold PySem.W.clsIn; rw [hC] <;> rfl
  obtain ⟨t1, ho⟩ := exo_at I.hok e
  obtain ⟨hp, g, d, t, os⟩ := s
  refine PySem.W.set_plain I.kIn (ox := { cls := .ref C, dict := none, data := .fields #[.ref t1, .none, .none, .none, .bool false, .none] }) (od := none) ⟨ho, rfl, rfl, trivial⟩ T.sa ?_
  refine exc_osaT TO I.kIn ho hcl (show refsT tail (.ref C :: bm) = true from hbm) rfl hno (fun h' tk' dx k dn dne hx hn => ?_)
  have hnd : H dx = none := I.hok.fresh dn
  have nd : ∀ {b : Addr} {o : Obj}, hp.get? b = some o → b ≠ dx := fun {b o} q => Nat.ne_of_lt (Nat.lt_of_lt_of_le (Heap.lt_size q) dn)
  have na : ∀ {b : Addr}, H b = none → b ≠ a := fun {b} n z => by
    rw [z, e] at n
    cases n
  have Un1 : Un X.fs [] H (upd (upd H dx (exd dx [(f, y)])) a (exo a C (some dx))) hp h' := {
    keep := fun b o q n _ _ => k b o (na n) q
    slot := fun b o q n _ _ => ⟨o.slots, k b o (na n) q⟩
    free := fun b o q n _ => by rw [upd_ne (na n), upd_ne (nd q)]; exact n
    there := fun b o q _ => by
      by_cases hb : b = a
      · exact ⟨_, by rw [hb]; exact hx⟩
      · exact ⟨o, k b o hb q⟩
    tups := fun b xs q => by rw [upd_ne (at_ne e q exo_tup), upd_ne (ne_of_none q hnd)]; exact q
    frzs := fun b o v q => by rw [upd_ne (at_ne e q exo_frz), upd_ne (ne_of_none q hnd)]; exact q
    tbls := fun b ps q => ⟨#[], by rw [upd_ne (at_ne e q exo_tbl), upd_ne (ne_of_none q hnd), q]; simp⟩ }
  refine h dx _ hnd dne (I.un (t' := tk') Un1 fun b o q => ?_)
  by_cases hb : b = a
  · subst hb
    rw [upd_same] at q
    cases q
    exact exo_ok hx
  · rw [upd_ne hb] at q
    by_cases hd : b = dx
    · subst hd
      rw [upd_same] at q
      cases q
      exact exd_ok hn (relO_put (fs := []) ry fun g => True.intro)
    · rw [upd_ne hd] at q
      exact (I.hok b o q).stay (fun c v hc z => k c v (by
          rcases hc with hc | hc
          · rw [hc]
            exact hb
          · exact at_ne e hc exo_own) z)
        (fun c hc => by rw [upd_ne (at_ne e hc exo_own), upd_ne (ne_of_none hc hnd)]; exact hc) (fun c xs hc => by rw [upd_ne (at_ne e hc exo_tup), upd_ne (ne_of_none hc hnd)]; exact hc)
theorem ostG_old (T : OexG X.K C) (I : Inv X pins σ H s) (e : H a = some (exo a C (some dx))) (ed : H dx = some (exd dx fs)) (hl : fs.length ≤ 900) (hno : PySem.W.findIn X.K (.ref C) f = some none) (ry : RelV y u)
    (h : ∀ s', Inv X pins σ (upd H dx (exd dx ((f, y) :: fs))) s' → Q () s') : wpAny (model X.prog X.w) A (setAttr (.ref a) f u) Q E s := by
  obtain ⟨B, nid, iid, tail, nm, q, N, bs, bm, sn, sub, ab, col, dd, k0, k1, k2, k3, k5, _, TO, hC, hbm⟩ := T.cls
  have hcl : PySem.W.clsIn X.K C = some { name := nm, bases := bs, mro := .ref C :: bm, ns := N, qualname := q, hasDict := true, slotNames := sn, subclasses := sub, abstract := ab, collection := col, hasDel := false } := by unfold PySem.W.clsIn; rw [hC] <;> rfl
  obtain ⟨t1, ho⟩ := exo_at I.hok e
  obtain ⟨mA, hns, rel⟩ := exd_at I.hok ed
  have hw := within_of rel
  obtain ⟨hp, g, d, t, os⟩ := s
  obtain ⟨oD, _, _, hoD, _, _⟩ := hns.count hw
  refine PySem.W.set_plain I.kIn (ox := { cls := .ref C, dict := some dx, data := .fields #[.ref t1, .none, .none, .none, .bool false, .none] }) (od := some oD) ⟨ho, rfl, rfl, hoD⟩ T.sa ?_
  refine osa_oldT TO I.kIn ho hns hw (by rw [List.length_map]; omega) hcl (show refsT tail (.ref C :: bm) = true from hbm) rfl hno (fun h' tk' k hn => ?_)
  have hd : ∃ o, h'.get? dx = some o := by
    obtain ⟨o, _, _, e', _⟩ := hn
    exact ⟨o, e'⟩
  exact h _ (I.write (t' := tk') (x := dx) (e := dx) (o := exd dx ((f, y) :: fs)) (by rw [ed]; exact True.intro) (.inl rfl) k hd (exd_ok hn (relO_put ry rel)))
end
/-- self.f = e -/
def tOstG (K : PySem.W.Frag) (f : Str) (to te : TE) : TS := fun D σ H => te σ H fun y H1 => to σ H1 fun x H2 => ∃ a C : Addr, x = .ref a ∧ OexG K C ∧ PySem.W.findIn K (.ref C) f = some none ∧
  ((H2 a = some (exo a C none) ∧ ∀ dx, H2 dx = none → dx ≠ a → D.nx σ (upd (upd H2 dx (exd dx [(f, y)])) a (exo a C (some dx)))) ∨
    ∃ (dx : Addr) (fs : List (Str × V)), H2 a = some (exo a C (some dx)) ∧ H2 dx = some (exd dx fs) ∧ fs.length ≤ 900 ∧ D.nx σ (upd H2 dx (exd dx ((f, y) :: fs))))
/-- e.f -/
def tXo (K : PySem.W.Frag) (f : Str) (te : TE) : TE := fun σ H Q => te σ H fun x H1 => ∃ (a C dx : Addr) (fs : List (Str × V)) (v : V), x = .ref a ∧ H1 a = some (exo a C (some dx)) ∧ H1 dx = some (exd dx fs) ∧ XfC K C ∧ PySem.W.findIn K (.ref C) f = some none ∧ fs.lookup f = some v ∧ Q v H1
/-- C(..), its own __init__ walked -/
def tMkG (C : Addr) (n : Nat) (sp : Sp) (gV : List V → List V → List V) (ta tk : TA) : TE := fun σ H Q => ta σ H fun vs H1 => tk σ H1 fun zs H2 => vs.length = n ∧ zs.length ≤ 1000 ∧ vs.length ≤ 1000 ∧ ∀ a, H2 a = none → sp (gV (.ref a :: vs) zs) (upd H2 a (exo a C none)) (fun v H3 => v = .non ∧ Q (.ref a) H3) E0
section
variable {X : Cx} {o e : Expr} {es : List Expr} {to te : TE} {ta : TA} {f : Str} {p p' p1 p2 pos : Pos}
theorem ps_ostG (ho : PE X o to) (he : PE X e te) (hs : swapsWith e (some (.Attribute o f p')) pos.line X.env = pure false := by rfl) : PS X (.Assign [.Attribute o f p'] e pos) (tOstG X.K f to te) := by
  refine ⟨fun pins s σ H D I h => ?_⟩
  refine plainObj_wpAny_Assign_Attribute (thn (he.run pins s σ H _ I h) fun v s1 ⟨y, H1, I1, r1, q1⟩ => thn (ho.run pins s1 σ H1 _ I1 q1) fun u s2 ⟨x, H2, I2, r2, a, C, ex, T, hno, q⟩ => ?_) hs
  subst ex
  obtain rfl : u = Value.ref a := r2
  rcases q with ⟨ea, q⟩ | ⟨dx, fs, ea, ed, hl, q⟩
  · exact ostG_new T I2 ea hno r1 fun dx s' n ne J => ⟨σ, _, J, q dx n ne⟩
  · exact ostG_old T I2 ea ed hl hno r1 fun s' J => ⟨σ, _, J, q⟩
theorem pe_xo (he : PE X e te) (hb : attributeBase e f X.env (eval e X.env) = eval e X.env := by rfl) : PE X (.Attribute e f pos) (tXo X.K f te) := by
  refine ⟨fun pins s σ H Q I h => ?_⟩
  refine attr_of hb (thn (he.run pins s σ H _ I h) fun u s1 hh => ?_)
  obtain ⟨x, H1, I1, rx, a, C, dx, fs, v, ex, ea, ed, T, hno, l, q⟩ := hh
  subst ex
  obtain rfl : u = Value.ref a := rx
  obtain ⟨t1, ho⟩ := exo_at I1.hok ea
  obtain ⟨mA, hns, hr⟩ := exd_at I1.hok ed
  obtain ⟨od, hod, hl⟩ := lookIn_ns hns
  obtain ⟨u, hu, ru⟩ := RelO.some_of (v := v) (o := mA f) (by rw [← l]; exact hr f)
  have J : PySem.W.InstAt s1.heap a ({ cls := .ref C, dict := some dx, data := .fields #[.ref t1, .none, .none, .none, .bool false, .none] } : Obj) C (some od) := ⟨ho, rfl, rfl, hod⟩
  exact HandSPX.exc_get I1.kIn J T.ga T.gg T.exC (PySem.W.findObj_own T.hdC hno rfl (by rw [hl, hu])) (handed_of ru) ⟨v, H1, I1.tok _, ru, q⟩
end
/-- the class of an own exception, so that isinstance asks its instances rightly -/
structure XisC (K : PySem.W.Frag) (D : Addr) : Prop where
  hc : (PySem.W.clsIn K D).isSome = true
  hg : PySem.W.findIn K (.ref D) "__getattribute__" = some (some (.builtin "BaseException.__getattribute__"))
  hk : PySem.W.findIn K (.ref D) "__getattr__" = some none
  hs : PySem.W.subIn K (.ref D) (.type "BaseException") = some true
  ha : PySem.W.findIn K (.ref D) "__class__" = some (some (.builtin "object.__class__"))
  hn : PySem.W.specialIn K (.builtin "object.__class__") "__get__" = some (some (.builtin "getset_descriptor.__get__"))
  ht : PySem.W.takesIn K (.builtin "object.__class__") = some true
  hm : PySem.W.mroIn K D (.type "object") = some true
/-- isinstance(e, c), e an own exception -/
def rIsX (K : PySem.W.Frag) : List V → Hp → VK → Prop := fun xs H Q => ∃ (a D dx : Addr) (fs : List (Str × V)) (c : V) (u : Value) (b : Bool), xs = [.ref a, c] ∧ ClsV c u ∧ H a = some (exo a D (some dx)) ∧ H dx = some (exd dx fs) ∧ XisC K D ∧ PySem.W.kitOne K (.ref D) u = some b ∧ Q (.bl b) H
theorem call_isX {X : Cx} : CallR X (.builtin "isinstance") (rIsX X.K) := by
  intro pins s σ H xs us Q I r h
  obtain ⟨a, D, dx, fs, c, u, b, rfl, k, ea, ed, C, e, q⟩ := h
  obtain ⟨u1, u2, rfl, r1, r2⟩ := vals2 r
  have e2 := k.eq r2
  subst e2
  obtain rfl : u1 = Value.ref a := r1
  obtain ⟨t1, ho⟩ := exo_at I.hok ea
  obtain ⟨mA, hns, _⟩ := exd_at I.hok ed
  obtain ⟨od, hod, _⟩ := lookIn_ns hns
  have J : PySem.W.InstAt s.heap a ({ cls := .ref D, dict := some dx, data := .fields #[.ref t1, .none, .none, .none, .bool false, .none] } : Obj) D (some od) := ⟨ho, rfl, rfl, hod⟩
  exact PySem.W.kia_one (PySem.W.kitx_exc C.hc C.hg C.hk C.hs C.ha C.hn C.ht C.hm) I.kIn J e (fun z => nomatch z) fun tk => ⟨.bl b, H, I.tok tk, rfl, q⟩
end L2
namespace PySem
namespace XVK
open HandSPX Builtin Builtin.ObjectAttr
section
variable {M : Model} {A : Around} {E : Value → Shared → Prop} {h : Heap} {g : Array GenState} {d : Drawn} {t : Nat} {os : OsState}
variable {nm q : Str} {C N : Addr} {bs bm bmB : List Value} {hdct : Bool} {sn : List Str} {sub : List Value} {ab : Bool} {col : Option Bool} {dd : Option Addr} {k0 k1 k2 k3 k5 : Option Value} {B newId initId : String}
theorem check_type_call_subK {M : Model} {rest : List Value} {kw : List (Str × Value)} {Q : Unit → Shared → Prop} (hC : h.get? C = some (excClassObj nm q C N bs bm hdct sn sub ab col dd k0 k1 k2 k3 k5 newId))
    (hq : Q () ⟨h, g, d, t, os⟩) : wpAny M A (checkBuiltinCall "type.__call__" ⟨.ref C :: rest, kw⟩) Q E ⟨h, g, d, t, os⟩ := by
  have f3 := tc_sub
  have hT : (⟨h, g, d, t, os⟩ : Shared).TypeIs (.ref C) "type" := ⟨_, hC, rfl⟩
  simp only [checkBuiltinCall, tc_kind, tc_split]
  repeat (any_goals (first | assumption | with_reducible refine wpAny_loadPart_at hC ?_ | with_reducible refine wpAny_onRaise ?_ | with_reducible refine wpAny_map ?_ | wp_step))
theorem check_new_ownK (F : ExcBaseFacts B newId initId bmB) (hT : ∀ X : String, bm.contains (.type X) = bmB.contains (.type X)) {rest : List Value} {kw : List (Str × Value)} {Q : Unit → Shared → Prop}
    (hC : h.get? C = some (excClassObj nm q C N bs bm hdct sn sub ab col dd k0 k1 k2 k3 k5 newId)) (hq : Q () ⟨h, g, d, t, os⟩) : wpAny M A (checkBuiltinCall newId ⟨.ref C :: rest, kw⟩) Q E ⟨h, g, d, t, os⟩ := by
  have hcont : (Value.ref C :: bm).contains (.type B) = true := by rw [List.contains_cons, hT, F.hasB, Bool.or_true]
  have hstar := F.noStar
  simp only [checkBuiltinCall, F.newKind, F.newSplit, F.newRow]
  repeat (first | refine wpAny_loadPart_at hC ?_ | (refine wpAny_isSubtype_exc hC ?_; rw [hcont]) | refine wpAny_staticBase_exc hC ?_ | refine wpAny_madeBy_exc hC ?_ | simp only [bne_self_eq_false, Bool.false_eq_true, if_false] | wp_step)
  exact hq
end
section
variable {prog : Program} {w : World} {A : Around} {E : Value → Shared → Prop} {R : Result → Shared → Prop} {h : Heap} {g : Array GenState} {d : Drawn} {t : Nat} {os : OsState}
variable {nm q : Str} {C N : Addr} {bs bm bmB : List Value} {hdct : Bool} {sn : List Str} {sub : List Value} {ab : Bool} {col : Option Bool} {dd : Option Addr} {k0 k1 k2 k3 k5 : Option Value} {B newId initId : String}
theorem new_ownK (F : ExcBaseFacts B newId initId bmB) (hT : ∀ X : String, bm.contains (.type X) = bmB.contains (.type X)) {rest : List Value} {kw : List (Str × Value)}
    (hC : h.get? C = some (excClassObj nm q C N bs bm hdct sn sub ab col dd k0 k1 k2 k3 k5 newId))
    (hq : R (.ok (.ret (.ref (h.objs.size + 1)))) ⟨(h.push { cls := .type "tuple", data := .seq rest.toArray }).push
      { cls := .ref C, data := .fields #[.ref h.objs.size, .none, .none, .none, .bool false, .none] }, g, d, t, os⟩) (hrest : rest.length ≤ sizeLine) :
    codeAny (model prog w) A (.builtin newId ⟨.ref C :: rest, kw⟩) R ⟨h, g, d, t, os⟩ := by
  have hends := F.ends
  have hcB : (Value.ref C :: bm).contains (.type B) = true := by rw [List.contains_cons, hT, F.hasB, Bool.or_true]
  have hcA : (Value.ref C :: bm).contains (.type "AttributeError") = false := by rw [List.contains_cons, hT, F.noAttr]; rfl
  have hcN : (Value.ref C :: bm).contains (.type "NameError") = false := by rw [List.contains_cons, hT, F.noName]; rfl
  refine codeAny_builtinAt F.entry ?_
  unfold Builtin.«BaseException.__new__»
  refine wpAt_bind ?_
  show wpAt _ _ _ (stack >>= _) _ _ _
  refine wpAt_bind (wpAt_stack fun p below => wpAt_of_wpAny ?_)
  wp_walk
  refine wpAt_of_wpAny ?_
  rw [F.owner]
  repeat (first | with_reducible refine wpAny_madeHere_exc F.canon hC ?_ | with_reducible refine wpAny_loadPart_at hC ?_ | (with_reducible refine wpAny_isSubtype_exc hC ?_; first | rw [hcB] | rw [hcA] | rw [hcN]) | wp_step)
  show R _ _
  rw [Heap.size_push]
  exact hq

theorem type_call_ownK (F : ExcBaseFacts B newId initId bmB) (hT : ∀ X : String, bm.contains (.type X) = bmB.contains (.type X)) {rest : List Value} {kw : List (Str × Value)} {fI : Addr} {Q : Fin → Shared → Prop}
    (hC : h.get? C = some (excClassObj nm q C N bs bm hdct sn sub ab col dd k0 k1 k2 k3 k5 newId))
    (hi : W.Looks (model prog w) h (typeLookup (.ref C) "__init__") (some (.ref fI))) (hb : ∀ self, W.Looks (model prog w) h (bindSpecial (.ref fI) self) (.ref fI, [self])) (hrest : rest.length ≤ sizeLine)
    (hq : codeAny (model prog w) A (.call (.ref fI) ⟨.ref (h.objs.size + 1) :: rest, kw⟩)
      (fun r s' => match r with | .ok (.ret v) => v = .none ∧ Q (.done (.ret (.ref (h.objs.size + 1)))) s' | .ok _ => False | .error e => E e s')
      ⟨(h.push (W.kdv_tup rest)).push (excO C h.objs.size), g, d, t, os⟩) :
    wpAny (model prog w) A (Builtin.«type.__call__» ⟨.ref C :: rest, kw⟩) Q E ⟨h, g, d, t, os⟩ := by
  repeat (first | with_reducible refine wpAny_loadPart_at hC ?_ | with_reducible refine wpAny_madeBy_exc hC ?_ | wp_step)
  refine codeAny_call_builtin_code (Code.quiet_builtin _ F.quiet) (check_new_ownK F hT hC ?_)
  refine new_ownK F hT hC ?_ hrest
  show wpAny _ _ _ _ _ _
  have k : ∀ b o, h.get? b = some o → ((h.push (W.kdv_tup rest)).push (excO C h.objs.size)).get? b = some o := fun b o e => Heap.get?_push_of_some _ (Heap.get?_push_of_some _ e)
  have hC₁ := k _ _ hC
  have hget : ((h.push (W.kdv_tup rest)).push (excO C h.objs.size)).get? (h.objs.size + 1) = some (excO C h.objs.size) := by heap_get
  have hcC : (Value.ref C :: bm).contains (.ref C) = true := by simp
  have i1 := hi.keeps k
  have b1 := (hb (.ref (h.objs.size + 1))).keeps k
  unfold isInstance
  repeat (first | with_reducible refine wpAny_loadPart_at hget ?_ | (with_reducible refine wpAny_isSubtype_exc hC₁ ?_; rw [hcC]) | wp_step)
  show wpAny _ _ (typeLookup (.ref C) _) _ _ _
  refine i1.at ?_
  refine wpAny_holding (wpAny_bind (b1.at ?_))
  refine wpAny_bind (wpAny_call (codeAny_mono hq fun r s' z => ?_))
  rcases r with e | (v | _ | _ | _) <;> first | exact z | exact z.elim | skip
  obtain ⟨rfl, z⟩ := z
  first
    | exact wpAny_pure (wpAny_pure z)
    | (wp_walk; exact z)

theorem call_ownK (F : ExcBaseFacts B newId initId bmB) (hT : ∀ X : String, bm.contains (.type X) = bmB.contains (.type X)) {rest : List Value} {kw : List (Str × Value)} {fI : Addr}
    (hC : h.get? C = some (excClassObj nm q C N bs bm hdct sn sub ab col dd k0 k1 k2 k3 k5 newId))
    (hi : W.Looks (model prog w) h (typeLookup (.ref C) "__init__") (some (.ref fI))) (hb : ∀ self, W.Looks (model prog w) h (bindSpecial (.ref fI) self) (.ref fI, [self])) (hrest : rest.length ≤ sizeLine)
    (hq : codeAny (model prog w) (A.under (.builtin "type.__call__" ⟨.ref C :: rest, kw⟩)) (.call (.ref fI) ⟨.ref (h.objs.size + 1) :: rest, kw⟩) (W.InitBack (h.objs.size + 1) R)
      ⟨(h.push (W.kdv_tup rest)).push (excO C h.objs.size), g, d, t, os⟩) :
    codeAny (model prog w) A (.call (.ref C) ⟨rest, kw⟩) R ⟨h, g, d, t, os⟩ := by
  have f1 := tc_lookup
  have f2 := tc_bind (.ref C)
  have hTy : (⟨h, g, d, t, os⟩ : Shared).TypeIs (.ref C) "type" := ⟨_, hC, rfl⟩
  refine codeAny_of_tree ?_
  show wpAny _ _ (callAny (.ref C) _) _ _ _
  repeat (any_goals (first | assumption | with_reducible refine wpAny_loadPart_at hC ?_ | wp_step))
  refine ⟨rfl, ?_⟩
  refine codeAny_call_builtin_at (Code.quiet_builtin _ (by decide +kernel)) entry_typeCall (check_type_call_subK hC (type_call_ownK F hT hC hi hb hrest ?_))
  refine codeAny_mono hq fun r s' z => ?_
  rcases r with e | (v | _ | _ | _) <;> exact z

end
end XVK
end PySem
namespace L2
open PySem PySem.Spec PyProof.Rows XV
/-- C(..), its own __init__ walked -/
def tMkN (C : Addr) (n m : Nat) (sp : Sp) (gV : List V → List V → List V) (ta tk : TA) : TE := fun σ H Q => ta σ H fun vs H1 => tk σ H1 fun zs H2 => vs.length = n ∧ zs.length = m ∧ n ≤ 1000 ∧ ∀ a, H2 a = none → sp (gV (.ref a :: vs) zs) (upd H2 a (exo a C none)) (fun v H3 => v = .non ∧ Q (.ref a) H3) E0
section
variable {X : Cx} {C fI : Addr} {k n : Nat} {fd : FuncData} {ps ks : List Str} {sp : Sp} {g : List Value → List Value → List Value} {gV : List V → List V → List V}
theorem run_mkG {pins : List (Addr × Obj)} {σ : St} {H : Hp} {s : Shared} {Q : VK} {us ws : List Value} {vs zs : List V} (T : OexG X.K C) (iC : PySem.W.findIn X.K (.ref C) "__init__" = some (some (.ref fI))) (tI : PySem.W.typeIn X.K (.ref fI) = some (.type "function"))
    (F1 : FnOk X.prog X.w X.K X.mg X.base CX0 k fI fd ps sp) (hr : Room (k + 1) X.A) (hb : KBn X.K fd ps (n + 1) ks g gV) (I : Inv X pins σ H s) (r : Vals vs us) (rz : Vals zs ws) (l1 : vs.length = n) (l2 : zs.length = ks.length) (hn : n ≤ 1000)
    (h : ∀ a, H a = none → sp (gV (.ref a :: vs) zs) (upd H a (exo a C none)) (fun v H3 => v = .non ∧ Q (.ref a) H3) E0) : wpAny (model X.prog X.w) X.A (call (.ref C) us (ks.zip ws)) (EP X pins σ Q) X.xe s := by
  obtain ⟨B, nid, iid, tail, nm, q, N, bs, bm, sn, sub, ab, col, dd, k0, k1, k2, k3, k5, FB, TO, hC, hbm⟩ := T.cls
  obtain ⟨hp, gg, dr, tk, os⟩ := s
  have hsz : hp.objs.size ≤ hp.objs.size + 1 := Nat.le_succ _
  have hn0 : H (hp.objs.size + 1) = none := I.hok.fresh hsz
  have hq := h (hp.objs.size + 1) hn0
  have kk : ∀ b o, hp.get? b = some o → ((hp.push (PySem.W.kdv_tup us)).push (PySem.HandSPX.excO C hp.objs.size)).get? b = some o := fun b o e => Heap.get?_push_of_some _ (Heap.get?_push_of_some _ e)
  have hget : ((hp.push (PySem.W.kdv_tup us)).push (PySem.HandSPX.excO C hp.objs.size)).get? (hp.objs.size + 1) = some (PySem.HandSPX.excO C hp.objs.size) := by heap_get
  have I2 : Inv X pins σ (upd H (hp.objs.size + 1) (exo (hp.objs.size + 1) C none)) ⟨(hp.push (PySem.W.kdv_tup us)).push (PySem.HandSPX.excO C hp.objs.size), gg, dr, tk, os⟩ :=
    I.laid (t' := tk) (a := hp.objs.size + 1) (o := exo (hp.objs.size + 1) C none) (h' := (hp.push (PySem.W.kdv_tup us)).push (PySem.HandSPX.excO C hp.objs.size)) kk hsz (exo_ok hget)
  have r1 : Vals (V.ref (hp.objs.size + 1) :: vs) (Value.ref (hp.objs.size + 1) :: us) := .cons rfl r
  have r2 := hb.rel r1 rz
  have e1 : (Value.ref (hp.objs.size + 1) :: us).length = n + 1 := r1.length.symm.trans (congrArg Nat.succ l1)
  have e2 : ws.length = ks.length := rz.length.symm.trans l2
  have hus : us.length ≤ sizeLine := by
    rw [← Paired.length r, l1, sizeLine_eq]
    omega
  refine wpAny_call (PySem.XVK.call_ownK FB (fun Y => refsT_contains TO Y bm hbm) (I.kIn _ _ hC) (PySem.W.looks_findIn I.kIn iC) (fun self => PySem.W.bind_fn I.kIn self tI) hus
    (codeAny_mono (F1.run _ X.stack _ _ ⟨Value.ref (hp.objs.size + 1) :: us, ks.zip ws⟩ (g (Value.ref (hp.objs.size + 1) :: us) ws) _ _ E0 (hr.make C us (ks.zip ws)) (I2.env0.make C us (ks.zip ws)) (hb.to _ (Value.ref (hp.objs.size + 1) :: us) ws I2.kIn e1 e2) r2 hq) fun r s' hq' => ?_))
  cases r with
  | error er => exact pass0 pins σ _ _ er s' I2 hq'
  | ok fl =>
    cases fl with
    | ret u =>
      obtain ⟨v, H', I3, rv, ev, q3⟩ := I2.after hq'
      subst ev
      exact ⟨rv, ⟨V.ref (hp.objs.size + 1), H', I3, rfl, q3⟩⟩
    | next => exact False.elim hq'
    | brk => exact False.elim hq'
    | cont => exact False.elim hq'
/-- a class to be made: where it stands, its __init__ -/
structure Xm (P : Program) (w : World) (K : PySem.W.Frag) (mg : Str → Option Value) (base : Heap) (C : Addr) (k : Nat) (fI : Addr) (fd : FuncData) (x : Str) (ps : List Str) (sp : Sp) : Prop where
  T : OexG K C
  iC : PySem.W.findIn K (.ref C) "__init__" = some (some (.ref fI))
  tI : PySem.W.typeIn K (.ref fI) = some (.type "function")
  ok : FnOk P w K mg base CX0 k fI fd ps sp
  m : mg x = some (.ref C)
theorem pe_mkG {x : Str} {e : Expr} {es : List Expr} {ta : TA} {p pos : Pos} (M : Xm X.prog X.w X.K X.mg X.base C k fI fd x ps sp) (hr : Room (k + 1) X.A) (hg : Gl X x) (hb : KBn X.K fd ps (n + 1) [] g gV) (ha : PA X (e :: es) ta)
    (hdb : (x == ("__debug__" : Str)) = false := by decide) (he : starEach (e :: es) X.env = (false, eval e X.env) :: starEach es X.env := by rfl) (hpl : (backTo pos (starEach es X.env)).any (·.1) = false := by rfl) :
    PE X (.Call (.Name x p) (e :: es) [] pos) (tMkN C n 0 sp gV ta tNil) := by
  refine ⟨fun pins s σ H Q I h => ?_⟩
  refine wpAny_Call_Name_kw (ld_glob I hg M.m ?_ hdb)
  refine PySem.W.callWith_K (h₀ := X.base) I.ok.mod.kin M.T.kC (thn (ha.run pos pins s σ H _ I h) fun us s1 ⟨vs, H1, I1, r, q⟩ => ⟨I1.kIn, ?_⟩) he hpl
  obtain ⟨l1, l2, l3, q⟩ := q
  exact run_mkG (us := us) (ws := []) (vs := vs) (zs := []) M.T M.iC M.tI M.ok hr hb I1 r .nil l1 rfl l3 q
theorem pe_mkG0 {x : Str} {p pos : Pos} (M : Xm X.prog X.w X.K X.mg X.base C k fI fd x ps sp) (hr : Room (k + 1) X.A) (hg : Gl X x) (hb : KBn X.K fd ps 1 [] g gV) (hdb : (x == ("__debug__" : Str)) = false := by decide) :
    PE X (.Call (.Name x p) [] [] pos) (tMkN C 0 0 sp gV tNil tNil) := by
  refine ⟨fun pins s σ H Q I h => ?_⟩
  refine wpAny_Call_Name_kw (ld_glob I hg M.m ?_ hdb)
  obtain ⟨l1, l2, l3, q⟩ := h
  exact PySem.W.callWith_K0 I.kIn M.T.kC (run_mkG (us := []) (ws := []) (vs := []) (zs := []) M.T M.iC M.tI M.ok hr hb I .nil .nil rfl rfl l3 q)
theorem pe_mkGK {x : Str} {kws : List Keyword} {tk : TA} {p pos : Pos} (M : Xm X.prog X.w X.K X.mg X.base C k fI fd x ps sp) (hr : Room (k + 1) X.A) (hg : Gl X x) (hb : KBn X.K fd ps 1 ks g gV) (hkw : PK X kws tk)
    (hall : (backToKw pos (keywordEach kws X.env)).all (·.1.isSome) = true := by rfl) (hks : (backToKw pos (keywordEach kws X.env)).filterMap (·.1) = ks := by rfl) (hdb : (x == ("__debug__" : Str)) = false := by decide)
    (hpl : ((backTo pos (starEach [] X.env)).any (·.1) || (backToKw pos (keywordEach kws X.env)).any (·.1.isNone)) = false := by rfl) :
    PE X (.Call (.Name x p) [] kws pos) (tMkN C 0 ks.length sp gV tNil tk) := by
  refine ⟨fun pins s σ H Q I h => ?_⟩
  refine wpAny_Call_Name_kw (ld_glob I hg M.m ?_ hdb)
  refine PySem.W.callWith_KW0 (h₀ := X.base) I.ok.mod.kin M.T.kC hall ?_ hpl
  refine thn (hkw.run pos pins s σ H _ I h) fun ws s2 ⟨zs, H2, I2, rz, l1, l2, l3, q⟩ => ⟨I2.kIn, ?_⟩
  rw [hks]
  exact run_mkG (us := []) (ws := ws) (vs := []) (zs := zs) M.T M.iC M.tI M.ok hr hb I2 .nil rz rfl l2 l3 q
end
end L2
/-! ### own exceptions raised and caught: a tuple of classes with a name, the caught one handed to a def -/
namespace ExR
open PySem PySem.Spec PyProof.Rows L2
section
variable {X : Cx}
/-- raise of an expression that makes an own exception (with its dict) -/
theorem pmk_exo {e : Expr} {te : TE} (hx : X.ex = []) (he : PE X e te) :
    PMk X e (fun σ H Q => te σ H fun x H1 => ∃ a C d, x = .ref a ∧ H1 a = some (exo a C (some d)) ∧ Fr0 X.H_0 a ∧ Raises X (.ref C) ∧ Q (.ref C) (some d) (delH H1 a)) := by
  intro pins s σ H Q I h
  refine wpAny_mono (he.run pins s σ H _ I h) (fun u s1 hu => ?_) fun _ _ x => x
  obtain ⟨v, H1, I1, r1, a, C, d, rfl, ha, h0, hr, q⟩ := hu
  cases r1
  obtain ⟨t1, ho⟩ := exo_at I1.hok ha
  obtain ⟨G, gs, ga, J⟩ := I1.untrack ha h0 hx
  exact ⟨a, _, _, { s1 with heap := G }, delH H1 a, .ref C, some d, rfl, J, gs, ga, ho, ⟨rfl, rfl⟩, rfl, rfl, delH_same, rfl, I1.bare, hr, q⟩
end
/-! a def that is handed the caught exception -/
structure FnE (P : Program) (w : World) (K : PySem.W.Frag) (mg : Str → Option Value) (base : Heap) (CX : CXT) (k : Nat) (f : Addr) (fd : FuncData) (ps : List Str) (sp : Addr → Value → Option Addr → Sp) : Prop where
  len : ∀ a cls d vs H Q E, sp a cls d vs H Q E → vs.length = ps.length
  run : ∀ (A : Around) (outer : List Env) (s : Shared) (H : Hp) (args : Args) (us : List Value) (vs : List V) (Q : VK) (E : XK) (p : Addr × Obj) (cls : Value) (d : Option Addr), L2H.RoomH k A → Zc cls d p.2 → (∃ fs, p.2.data = .fields fs) → L2H.PinOk outer H s p → Env0 P w K mg base A outer s H → BindsTo s fd args (ps.zip us) → Vals vs us → sp p.1 cls d vs H Q E →
    codeAny (model P w) A (.call (.ref f) args) (CR CX outer P w H s Q E) s
theorem fn_ofE {CX : CXT} {P : Program} {w : World} {K : PySem.W.Frag} {mg : Str → Option Value} {base : Heap} {k : Nat} {f : Addr} {name qual : Str} {params : Arguments} {body : List Stmt} {scope : Scope} {dV kV doc pm cdv ct oc : Value} {an od : Option Addr}
    {osl : Array (Option Value)} {N ps : List Str} {sp : Addr → Value → Option Addr → Sp} (lk : K.lookup f = some ⟨oc, od, .func (PySem.W.fnOf name qual params body scope dV kV doc pm an cdv ct), osl⟩) (hcd : PySem.W.codeIn K cdv qual = true) (S : FnScope N ps scope)
    (len : ∀ a cls d vs H Q E, sp a cls d vs H Q E → vs.length = ps.length)
    (hbody : ∀ (A : Around) (outer : List Env) (s : Shared) (H : Hp) (vs : List V) (Q : VK) (E : XK) (p : Addr × Obj) (cls : Value) (d : Option Addr), Zc cls d p.2 → (∃ fs, p.2.data = .fields fs) → L2H.RoomH k (A.deeper (envOfC qual scope s.heap.objs.size f cdv)) → sp p.1 cls d vs H Q E →
      ∃ t, PSs (L2H.cxH CX P w K mg base N qual scope f cdv A outer s H E p) body t ∧ t { nx := fun _ H' => Q .non H', rt := Q } (L2.start N vs) H) :
    FnE P w K mg base CX (k + 1) f (PySem.W.fnOf name qual params body scope dV kV doc pm an cdv ct) ps sp := by
  refine ⟨len, fun A outer s H args us vs Q E p cls d hr hz hfd hpin e0 hb r hsp => ?_⟩
  have hl := len _ _ _ _ _ _ _ hsp
  have KX : K.In s.heap := e0.mod.kin.keeps fun b o e => (e0.bs b o e).1
  have lim : s.heap.NoLimit := e0.mod.nolimit.keeps fun b o e => (e0.bs b o e).1
  have hkind : ∀ y ∈ ps.zip us, scope.names.lookup y.1 = some .local ∨ (scope.names.lookup y.1 = some .cell ∧ ((cellsFrom (s.heap.objs.size + 1) scope.names []).lookup y.1).isSome = true) := fun ⟨n, v⟩ hy => by
    rcases S.par n (List.of_mem_zip hy).1 with q | q
    · exact .inl q
    · exact .inr ⟨q, PySem.W.cellsFrom_some _ _ _ (.inl q)⟩
  refine codeAny_call_function hr.depth (KX _ _ lk) rfl S.co S.gen rfl (PySem.W.codeRec_of KX hcd) (hb _ _ _ _ ?_)
  refine wpAny_newFunctionEnv_cells S.kind hkind fun env he s1 x => ?_
  subst he
  refine ⟨lim.keeps x.toInCall.keep, codeAny_func ?_⟩
  obtain ⟨t, ht, hq⟩ := hbody A outer s H vs Q E p cls d hz hfd (hr.deeper _) hsp
  have I : Inv (L2H.cxH CX P w K mg base N qual scope f cdv A outer s H E p) [] (L2.start N vs) H s1 := L2H.inv_startH S hpin e0 hl r x
  refine wpAny_mono (ht.run [] s1 (L2.start N vs) H _ I hq) (fun fl s' hs => ?_) fun e s' hs => hs
  have fin : ∀ {σ' : L2.St} {H' : Hp} {v : V} {u : Value}, Inv (L2H.cxH CX P w K mg base N qual scope f cdv A outer s H E p) [] σ' H' s' → RelV v u → Q v H' → CE outer P w H s Q u s' :=
    fun {σ' H' v u} J rv q => ⟨v, H', J.os, J.bare, J.base, J.hok, rv, q⟩
  cases fl with
  | ret u =>
    obtain ⟨v, σ', H', J, rv, q⟩ := hs
    exact fin J rv q
  | next =>
    obtain ⟨σ', H', J, q⟩ := hs
    exact fin (v := V.non) (u := Value.none) J rfl q
  | brk =>
    obtain ⟨_, _, _, q⟩ := hs
    exact False.elim q
  | cont =>
    obtain ⟨_, _, _, q⟩ := hs
    exact False.elim q
/-- the context bears the caught exception p -/
structure Bears (X : Cx) (p : Addr × Obj) (cls : Value) (d : Option Addr) : Prop where
  pn : p ∈ X.pn
  z : Zc cls d p.2
  fs : ∃ fs, p.2.data = .fields fs
section
variable {X : Cx} {CX : CXT} {k : Nat} {f C : Addr} {fd : FuncData} {ps : List Str} {sp : Addr → Value → Option Addr → Sp} {E : XK} {x : Str} {q pos apos : Pos} {e : Expr} {es : List Expr} {ta : TE} {t : TA} {p : Addr × Obj} {cls : Value} {d : Option Addr}
/-- f(e, ..) beside a caught exception -/
theorem pe_callE (F : FnE X.prog X.w X.K X.mg X.base CX k f fd ps sp) (hr : L2H.RoomH k X.A) (B : Bears X p cls d) (hg : Gl X x) (hm : X.mg x = some (.ref f)) (hk : PySem.W.keepIn X.K (.ref f) = true) (hb : Binds X.K fd ps []) (hx : Passes CX X E)
    (ha : PA X (e :: es) t) (hdb : (x == ("__debug__" : Str)) = false := by decide) (he : starEach (e :: es) X.env = (false, eval e X.env) :: starEach es X.env := by rfl) (hpl : (backTo pos (starEach es X.env)).any (·.1) = false := by rfl) :
    PE X (.Call (.Name x q) (e :: es) [] pos) (fun σ H Q => t σ H fun vs H1 => sp p.1 cls d vs H1 Q E) := by
  refine ⟨fun pins s σ H Q I h => ?_⟩
  refine wpAny_Call_Name_kw (ld_glob I hg hm ?_ hdb)
  refine PySem.W.callWith_K (h₀ := X.base) I.ok.mod.kin hk (thn (ha.run pos pins s σ H _ I h) fun us s1 ⟨vs, H1, I1, r, q⟩ => ⟨I1.kIn, ?_⟩) he hpl
  have hl : us.length = ps.length := by rw [← r.length]; exact F.len _ _ _ _ _ _ _ q
  have b := hb s1 us I1.kIn (by rw [List.append_nil]; exact hl)
  rw [List.append_nil] at b
  have P1 := I1.pin p (List.mem_append_left _ B.pn)
  have hpin : L2H.PinOk X.stack H1 s1 p := ⟨P1.1, P1.2.1, fun hm => (List.mem_cons.mp (I1.stkSub p.1 hm)).elim P1.2.2.1 P1.2.2.2.1, P1.2.2.2.2⟩
  refine wpAny_call (codeAny_mono (F.run X.A X.stack s1 H1 ⟨us, []⟩ us vs Q E p cls d hr B.z B.fs hpin I1.env0 b r q) fun r s' hq => ?_)
  cases r with
  | error e => exact hx pins σ H1 s1 e s' I1 hq
  | ok fl =>
    cases fl with
    | ret u => exact I1.after hq
    | next => exact False.elim hq
    | brk => exact False.elim hq
    | cont => exact False.elim hq
/-- e.f, e the caught exception -/
def tXe (K : PySem.W.Frag) (a : Addr) (cls : Value) (d : Option Addr) (f : Str) (te : TE) : TE := fun σ H Q => te σ H fun x H1 => ∃ (C dd : Addr) (fs : List (Str × V)) (v : V), x = .ref a ∧ cls = .ref C ∧ XfC K C ∧ PySem.W.findIn K (.ref C) f = some none ∧ d = some dd ∧ H1 dd = some (exd dd fs) ∧ fs.lookup f = some v ∧ Q v H1
theorem pe_xe {n : Str} {te : TE} (B : Bears X p cls d) (he : PE X e te) (hb : attributeBase e n X.env (eval e X.env) = eval e X.env := by rfl) : PE X (.Attribute e n pos) (tXe X.K p.1 cls d n te) := by
  refine ⟨fun pins s σ H Q I h => ?_⟩
  refine attr_of hb (thn (he.run pins s σ H _ I h) fun u s1 hh => ?_)
  obtain ⟨x, H1, I1, rx, C, dd, fs, v, ex, ec, T, hno, ed, ea, l, q⟩ := hh
  subst ex
  obtain rfl : u = Value.ref p.1 := rx
  obtain ⟨ha, _⟩ := I1.pin p (List.mem_append_left _ B.pn)
  obtain ⟨vs, hd⟩ := B.fs
  obtain ⟨mA, hns, hr⟩ := exd_at I1.hok ea
  obtain ⟨od, ho, hl⟩ := lookIn_ns hns
  obtain ⟨u, hu, ru⟩ := RelO.some_of (v := v) (o := mA n) (by rw [← l]; exact hr n)
  have J : PySem.W.InstAt s1.heap p.1 p.2 C (some od) := ⟨ha, by rw [B.z.1, ec], by unfold PySem.W.notCls; rw [hd] <;> rfl, by rw [B.z.2, ed]; exact ho⟩
  exact HandSPX.exc_get I1.kIn J T.ga T.gg T.exC (PySem.W.findObj_own T.hdC hno rfl (by rw [hl, hu])) (handed_of ru) ⟨v, H1, I1.tok _, ru, q⟩
end
/-! except (A, B, C) as e -/
def wAs3 (K : PySem.W.Frag) (cs : List Value) (i : Nat) (ts : Addr → Value → Option Addr → TS) (Wout : WX) (D : Ends) : WX := fun cls d σ H =>
  ∃ b, PySem.W.exmAny K cls cs = some b ∧ (b = true → ∀ a, H a = none → ts a cls d { nx := fun σ' H' => D.nx (σ'.set i none) H', rt := D.rt, bk := fun σ' H' => D.bk (σ'.set i none) H', ct := fun σ' H' => D.ct (σ'.set i none) H' } (σ.set i (some (.ref a))) H) ∧
    (b = false → Wout cls d σ H)
theorem flying_push {B h : Heap} {l : List Env} {a : Addr} {Z : Obj → Prop} (f : HandSPX.FlyingZ B l a Z h) (o : Obj) : HandSPX.FlyingZ B l a Z (h.push o) := by
  obtain ⟨k1, k2, k3, oe, vs, T, oT, ts, he, hz, hd, h1, hb, ht, hT, hdT, h3⟩ := f
  exact ⟨fun b o' e => Heap.get?_push_of_some _ (k1 b o' e), k2, k3.of_keeps fun b o' e _ => ⟨o', Heap.get?_push_of_some _ e, rfl⟩, oe, vs, T, oT, ts, Heap.get?_push_of_some _ he, hz, hd, h1, hb, ht, Heap.get?_push_of_some _ hT, hdT, h3⟩
section
variable {X : Cx} {x1 x2 x3 n : Str} {c1 c2 c3 : Value} {i : Nat} {body suite : List Stmt} {b₀ : Stmt} {p1 p2 p3 tpos pos pos' : Pos} {kk : Nat} {tb : WX → TS} {ts : Addr → Value → Option Addr → TS} {Wout : WX}
theorem ps_try_as3 (hs : X.stack = X.env :: X.outer) (hf : X.env.frame = some X.env.locals) (hN : X.N.Nodup) (hi : X.N[i]? = some n) (hln : X.env.kindOf n = some .local) (hc1 : Names X x1 c1) (hc2 : Names X x2 c2) (hc3 : Names X x3 c3) (tk : Takes X Wout)
    (hb : ∀ (W : WX) (pn : List (Addr × Obj)) (xe : Value → Shared → Prop), Takes (X.tr pn xe) W → PassesOwn (model X.prog X.w) X.A X.env xe → PSs (X.tr pn xe) body (tb W))
    (hsu : ∀ (a : Addr) (oe : Obj) (cls : Value) (d : Option Addr) (pn : List (Addr × Obj)), Zc cls d oe → (∃ vs, oe.data = .fields vs) → PSs (X.suite a ((a, oe) :: pn)) (b₀ :: suite) (ts a cls d)) :
    PS X (.Try body [.ExceptHandler (some (.Tuple [.Name x1 p1, .Name x2 p2, .Name x3 p3] kk tpos)) (some n) (b₀ :: suite) pos'] [] [] pos) (fun D σ H => tb (wAs3 X.K [c1, c2, c3] i ts Wout D) D σ H) := by
  refine ⟨fun pins s σ H D I h => ?_⟩
  have ok := I.ok
  have hfr : X.A.frames = some (X.env :: X.outer) := by rw [ok.frames, hs]
  have hloc : Loc X.env.scope n := .inl hln
  refine wpAny_Try_except ?_
  refine wpAny_mono ((hb (wAs3 X.K [c1, c2, c3] i ts Wout D) (X.pn ++ pins) (fun e s₁ => wpAny (model X.prog X.w) X.A (noteFrame e X.env) (fun _ s₂ => wpAny (model X.prog X.w) X.A (setFlight e none) (fun _ s₃ =>
    wpAny (model X.prog X.w) X.A (handleBy e X.env [.ExceptHandler (some (.Tuple [.Name x1 p1, .Name x2 p2, .Name x3 p3] kk tpos)) (some n) (b₀ :: suite) pos']) (SP X pins D) X.xe s₃) X.xe s₂) X.xe s₁) (fun u s' xx => ?_) PassesOwn.looking).run [] s σ H D (I.toTry _) h) (fun f s1 hsp => ?_) (fun e s1 he => he)
  · -- the catch
    obtain ⟨a, B, sI, pins', σ', H', cls, d, rfl, J', nb, up, sky, na, os, ag, b, hb1, hyes, hno⟩ := xx
    have J : Inv X pins σ' H' sI := J'.ofTry ok
    have sky' : Sky B (X.env :: X.outer) a (Zc cls d) X.env.locals s'.heap := by rw [← hs]; exact sky
    show wpAny (model X.prog X.w) X.A (noteFrame (.ref a) X.env) _ _ _
    refine Sky.land Zc.steady hfr hf sky' fun h2 fl2 up2 => ?_
    have J2 : Inv X pins σ' H' { s' with heap := h2 } := J.landed nb fl2.1 (up.trans up2) os ag
    obtain ⟨oe2, vs2, he2, hz2, hd2⟩ := fl2.there
    have notFr : ∀ {h : Heap} {o : Obj} {vs : Array Value}, h.FunFrames B (X.env :: X.outer) → h.get? a = some o → o.data = .fields vs → a ∉ frs (X.env :: X.outer) := fun {h o vs} ff e dd hm => by
      obtain ⟨_, o', e', hnf⟩ := ff.mem hm
      rw [e] at e'; cases e'
      exact hnf _ dd
    have nfr := notFr fl2.2.2.1 he2 hd2
    have nL : a ≠ X.env.locals := fun z => nfr (List.mem_filterMap.mpr ⟨X.env, List.mem_cons_self, by rw [hf, z]⟩)
    have nF : a ∉ X.fs := fun hm => by
      obtain ⟨e, he, q⟩ := List.mem_filterMap.mp hm
      exact nfr (List.mem_filterMap.mpr ⟨e, List.mem_cons_of_mem _ he, q⟩)
    have S2 := J2.suite he2 hd2 na nL nF
    refine wpAny_handleBy_cons (codeAny_handlers_test ?_) (by intro q; cases q)
    have test : ∀ {x : Str} {c : Value} {np : Pos} {Q : Value → Shared → Prop} {E : Value → Shared → Prop}, Names X x c → Q c { s' with heap := h2 } → wpAny (model X.prog X.w) (X.A.mark (some (.ref a))) (eval (.Name x np) X.env) Q E { s' with heap := h2 } := fun {x c np Q E} hc q => by
      obtain ⟨hg, hdbg, hm | ⟨hm, hv, hnn⟩⟩ := hc
      · exact ld_glob (X := X.suite a ((a, oe2) :: (X.pn ++ pins))) S2 hg hm q hdbg
      · exact ld_blt (X := X.suite a ((a, oe2) :: (X.pn ++ pins))) S2 hg hm hv q hnn hdbg
    refine wpAny_Tuple ?_
    refine wpAny_items_cons (test hc1 ?_)
    refine wpAny_items_cons (test hc2 ?_)
    refine wpAny_items_cons (test hc3 ?_)
    refine wpAny_items_nil ⟨by size_fits, ?_⟩
    generalize hh3 : h2.push { cls := .type "tuple", data := .seq [c1, c2, c3].toArray } = h3
    have fl3 : HandSPX.FlyingZ B (X.env :: X.outer) a (Zc cls d) h3 := by rw [← hh3]; exact flying_push fl2 _
    have upp : h2.UpToSlots h3 := by rw [← hh3]; exact Heap.UpToSlots.of_keeps fun _ _ z => Heap.get?_push_of_some _ z
    have up3 : s'.heap.UpToSlots h3 := up2.trans upp
    have J3 : Inv X pins σ' H' { s' with heap := h3 } := J.landed nb fl3.1 (up.trans up3) os ag
    obtain ⟨oe3, vs3, he3, hz3, hd3⟩ := fl3.there
    have LT : PySem.W.Looks (model X.prog X.w) h3 (typeOf (.ref a)) cls := fun A Q E s k q => wpAny_typeOf_ref (k _ _ he3) (by rw [hz3.1]; exact q)
    have hp : h3.get? h2.objs.size = some { cls := .type "tuple", data := .seq [c1, c2, c3].toArray } := by rw [← hh3]; exact Heap.get?_push_size h2 rfl
    have LM := PySem.W.exm_tup3 (M := model X.prog X.w) (J3.kIn) LT hp hb1
    show wpAny (model X.prog X.w) (X.A.mark (some (.ref a))) (excMatches (.ref a) (.ref h2.objs.size)) _ _ { s' with heap := h3 }
    refine LM.here ?_
    cases b with
    | true =>
      refine codeAny_handlers_suite_as ?_
      refine HandSPX.lands_againZ fl3 fun h4 fl4 up4 => ?_
      have J4 : Inv X pins σ' H' { s' with heap := h4 } := J.landed nb fl4.1 ((up.trans up3).trans up4) os ag
      obtain ⟨oe4, vs4, he4, hz4, hd4⟩ := fl4.there
      have S4 := J4.suite he4 hd4 na nL nF
      refine store_ok (X := X.suite a ((a, oe4) :: (X.pn ++ pins))) (v := .ref a) S4 hN hi hloc rfl (fun s5 S5 => ?_) (.inr hln)
      refine wpAny_mono ((hsu a oe4 cls d (X.pn ++ pins) hz4 ⟨_, hd4⟩).run [] s5 _ H' _ S5 (hyes rfl a na)) (fun f s6 hsp => ?_) (fun _ _ z => False.elim z)
      have end_ : ∀ {σ6 : L2.St} {H6 : Hp} {Q : Shared → Prop}, Inv (X.suite a ((a, oe4) :: (X.pn ++ pins))) [] σ6 H6 s6 → (∀ s7, Inv X pins (σ6.set i none) H6 s7 → Q s7) →
          wpAny (model X.prog X.w) X.A (do bindName X.env n .none; unbindBehindTheSuite X.env n pos') (fun _ s7 => Q s7) X.xe s6 := fun {σ6 H6 Q} S6 hq => gone_ok (S6.unsuite ok) hN hi hln hq
      cases f with
      | next =>
        obtain ⟨σ6, H6, S6, q6⟩ := hsp
        exact end_ S6 fun s7 J7 => ⟨_, _, J7, q6⟩
      | brk =>
        obtain ⟨σ6, H6, S6, q6⟩ := hsp
        exact end_ S6 fun s7 J7 => ⟨_, _, J7, q6⟩
      | cont =>
        obtain ⟨σ6, H6, S6, q6⟩ := hsp
        exact end_ S6 fun s7 J7 => ⟨_, _, J7, q6⟩
      | ret u =>
        obtain ⟨v6, σ6, H6, S6, r6, q6⟩ := hsp
        exact end_ S6 fun s7 J7 => ⟨_, _, _, J7, r6, q6⟩
    | false =>
      show wpAny _ X.A (handleBy (.ref a) X.env []) _ _ _
      refine wpAny_handleBy_nil ?_
      obtain ⟨k1, k2, k3, oe, vs, T, oT, ts', he, hz, hd, h1, hr⟩ := id fl3
      unfold PySem.passOn
      refine wpAny_bind (wpAny_field he hd h1 ?_)
      rw [if_neg (show ¬ ((Value.ref T == Value.none) = true) from by simp)]
      have fin : wpAny (model X.prog X.w) X.A (setFlight (.ref a) X.env.frame) (fun _ s4 => wpAny (model X.prog X.w) X.A (throw (.ref a) : Sem Flow) (SP X pins D) X.xe s4) X.xe { s' with heap := h3 } := by
        rw [hf]
        refine HandSPX.setFlight_upZ fl3 fun h4 hh4 up4 => wpAny_throw (tk _ _ ?_)
        exact ⟨a, B, sI, pins, σ', H', cls, d, rfl, J, nb, (up.trans up3).trans up4, .inr (.inr (by rw [hs]; exact hh4)), na, os, ag, hno rfl⟩
      first
        | exact wpAny_bind (wpAny_pure (wpAny_bind fin))
        | exact wpAny_bind fin
  · cases f with
    | next =>
      obtain ⟨σ', H', J', q⟩ := hsp
      exact wpAny_execs_nil ⟨σ', H', J'.ofTry ok, q⟩
    | brk =>
      obtain ⟨σ', H', J', q⟩ := hsp
      exact ⟨σ', H', J'.ofTry ok, q⟩
    | cont =>
      obtain ⟨σ', H', J', q⟩ := hsp
      exact ⟨σ', H', J'.ofTry ok, q⟩
    | ret u =>
      obtain ⟨v, σ', H', J', r, q⟩ := hsp
      exact ⟨v, σ', H', J'.ofTry ok, r, q⟩
end
end ExR
namespace Un
open PySem L2 TL
def top (i : Nat) : Stmt := PySem.Challenge.pw_unopened_k84_faults_of_uses_in_order.main.body.getD i (.Pass ⟨0, 0, 0, 0⟩)
abbrev sBag : Stmt := top 62
abbrev sPull : Stmt := top 63
abbrev sAny : Stmt := top 64
/-! the law's drawing: a bag at b, its cells at c -/
structure BagIs (H : Hp) (b c : Addr) (ns : List Int) (p r s k : Int) : Prop where
  lb : H b = some (.lst [.ref c, .int p, .int r, .int s, .int k])
  lc : H c = some (.lst (ns.map V.int))
  nl : ns.length ≤ 63
  p0 : 0 ≤ p
  s0 : 0 ≤ s
  s1 : s < 2147483648
  r0 : 0 ≤ r
def Bag (H : Hp) (b c : Addr) : Prop := ∃ ns p r s k, BagIs H b c ns p r s k
/-- what was tracked is as it was, the bag aside -/
def Kp (b : Addr) (H H' : Hp) : Prop := ∀ a o, H a = some o → a ≠ b → H' a = some o
theorem Kp.refl (b : Addr) (H : Hp) : Kp b H H := fun _ _ h _ => h
theorem Kp.trans {b : Addr} {H H1 H2 : Hp} (x : Kp b H H1) (y : Kp b H1 H2) : Kp b H H2 := fun a o h n => y a o (x a o h n) n
theorem Same.kp {b : Addr} {H H' : Hp} (x : Same H H') : Kp b H H' := fun a o h _ => x a o h
theorem same_upd {H : Hp} {p : Addr} (h : H p = none) (o : HO) : Same H (upd H p o) := fun b u q => by rw [upd_ne (ne_of_none q h)]; exact q
theorem Bag.ne {H : Hp} {b c : Addr} (B : Bag H b c) : b ≠ c := by
  obtain ⟨ns, p, r, s, k, B⟩ := B
  intro e
  have h1 := B.lb
  rw [e, B.lc] at h1
  cases ns with
  | nil => cases h1
  | cons x t => 
    have := Option.some.inj h1
    cases this
theorem Bag.same {H H' : Hp} {b c : Addr} (B : Bag H b c) (x : Same H H') : Bag H' b c := by
  obtain ⟨ns, p, r, s, k, B⟩ := B
  exact ⟨ns, p, r, s, k, x _ _ B.lb, x _ _ B.lc, B.nl, B.p0, B.s0, B.s1, B.r0⟩
theorem Bag.upd_new {H : Hp} {b c q : Addr} (B : Bag H b c) (h : H q = none) (o : HO) : Bag (upd H q o) b c := B.same (same_upd h o)
theorem Bag.there {H : Hp} {b c : Addr} (B : Bag H b c) : ∃ o, H b = some o := by
  obtain ⟨ns, p, r, s, k, B⟩ := B
  exact ⟨_, B.lb⟩
theorem Bag.fresh {H : Hp} {b c q : Addr} (B : Bag H b c) (h : H q = none) : q ≠ b := by
  obtain ⟨o, e⟩ := B.there
  exact (ne_of_none e h).symm
/-- the bag's list is written -/
theorem BagIs.put {H : Hp} {b c : Addr} {ns : List Int} {p r s k p' r' s' k' : Int} (B : BagIs H b c ns p r s k) (h0 : 0 ≤ p') (h1 : 0 ≤ s') (h2 : s' < 2147483648) (h3 : 0 ≤ r') :
    BagIs (upd H b (.lst [.ref c, .int p', .int r', .int s', .int k'])) b c ns p' r' s' k' := by
  have n : b ≠ c := Bag.ne ⟨ns, p, r, s, k, B⟩
  exact ⟨upd_same, by rw [upd_ne n.symm]; exact B.lc, B.nl, h0, h1, h2, h3⟩
def spPull : Sp := fun vs H Q _ => ∃ (b c : Addr) (many : Int), vs = [.ref b, .int many] ∧ Bag H b c ∧ 0 < many ∧ many < 1073741824 ∧
  ∀ (d : Int) (H' : Hp), 0 ≤ d → d < many → Bag H' b c → Kp b H H' → Q (.int d) H'
section
variable {P : Program} {w : World} {K : PySem.W.Frag} {mg : Str → Option Value} {base : Heap}
theorem scPull : FnScope ["_law_bag_here", "_law_many", "_law_cell", "_law_digit", "_law_seed"] ["_law_bag_here", "_law_many"] (defScope sPull) := ⟨rfl, rfl, rfl, by decide +kernel, rfl, by decide +kernel, by decide +kernel⟩
theorem ok_pull {f : Addr} {fd : FuncData} (F : Fun K "_law_pull" "_law_pull" sPull f fd) (mlen : mg "len" = none) (mint : mg "int" = none) : FnOk P w K mg base CX0 1 f fd ["_law_bag_here", "_law_many"] spPull := by
  refine F.ok scPull (fun vs H Q E h => ?_) (fun cdv A outer s H vs Q E hr h => ?_)
  · obtain ⟨b, c, many, rfl, _⟩ := h
    rfl
  obtain ⟨b, c, many, rfl, ⟨ns, p, r, s, k, B⟩, m0, m1, q⟩ := h
  refine ⟨_, C8.pss_cut (ps_if (PW.pt (pw_and (pt_cmpR op_eq (pe_ix ix_list (pv 0) pe_int (fun _ _ => rfl)) pe_int (nomark _)) (pw_and1 (pt_cmpR op_lt (pe_ix ix_list (pv 0) pe_int (fun _ _ => rfl)) (pe_callB call_len_seq (by rfl) mlen PySem.boot_len (pa_cons (pe_ix ix_list (pv 0) pe_int (fun _ _ => rfl)) pa_nil)) (nomark _)))))
      (pss_cons (ps_set (i := 2) scPull.nd rfl (Or.inl rfl) (pe_ix ix_list (pe_ix ix_list (pv 0) pe_int (fun _ _ => rfl)) (pe_ix ix_list (pv 0) pe_int (fun _ _ => rfl)) (fun _ _ => rfl)))
      (pss_cons (ps_asg (pe_op op_add (pe_ix ix_list (pv 0) pe_int (fun _ _ => rfl)) pe_int) (pg_sub (pv 0) pe_int set_list))
      (pss_one (ps_if (pt_cmpR op_ge (pv 2) (pe_op op_pow pe_int pe_int) (nomark _))
        (pss_one (ps_asg (pv 2) (pg_sub (pv 0) pe_int set_list)))
        (pss_one (ps_asg (pe_op op_mod (pe_callTy call_int1 (by rfl) mint (by decide +kernel) (pa_cons (pe_op op_add (pe_op op_add (pe_op op_mul (pe_ix ix_list (pv 0) pe_int (fun _ _ => rfl)) pe_int) (pe_op op_mul (pe_op op_mod (pe_callTy call_int1 (by rfl) mint (by decide +kernel) (pa_cons (pv 2) pa_nil)) pe_int) pe_int)) pe_int) pa_nil)) pe_int) (pg_sub (pv 0) pe_int set_list)))))))
      pss_nil)
    (pss_cons (ps_if (pt_cmpR op_gt (pe_ix ix_list (pv 0) pe_int (fun _ _ => rfl)) pe_int (nomark _))
      (pss_cons (ps_set (i := 3) scPull.nd rfl (Or.inl rfl) (pe_op op_mod (pe_callTy call_int1 (by rfl) mint (by decide +kernel) (pa_cons (pe_ix ix_list (pv 0) pe_int (fun _ _ => rfl)) pa_nil)) (pv 1)))
      (pss_cons (ps_asg (pe_op op_fdiv (pe_ix ix_list (pv 0) pe_int (fun _ _ => rfl)) (pv 1)) (pg_sub (pv 0) pe_int set_list))
      (pss_one (ps_ret (pv 3)))))
      pss_nil)
    (pss_cons (ps_asg (pe_op op_add (pe_ix ix_list (pv 0) pe_int (fun _ _ => rfl)) pe_int) (pg_sub (pv 0) pe_int set_list))
    (pss_cons (ps_set (i := 4) scPull.nd rfl (Or.inl rfl) (pe_ix ix_list (pv 0) pe_int (fun _ _ => rfl)))
    (pss_cons (ps_asg (pe_op op_mod (pe_callTy call_int1 (by rfl) mint (by decide +kernel) (pa_cons (pe_op op_add (pe_op op_add (pe_op op_add (pe_op op_mul (pe_op op_mul (pv 4) (pv 4)) pe_int) (pe_op op_mul (pv 4) pe_int)) (pe_op op_mul (pe_ix ix_list (pv 0) pe_int (fun _ _ => rfl)) pe_int)) pe_int) pa_nil)) pe_int) (pg_sub (pv 0) pe_int set_list))
    (pss_one (ps_ret (pe_op op_mod (pe_callTy call_int1 (by rfl) mint (by decide +kernel) (pa_cons (pe_op op_add (pe_op op_fdiv (pe_ix ix_list (pv 0) pe_int (fun _ _ => rfl)) pe_int) (pe_op op_mul (pe_op op_mod (pe_callTy call_int1 (by rfl) mint (by decide +kernel) (pa_cons (pe_ix ix_list (pv 0) pe_int (fun _ _ => rfl)) pa_nil)) pe_int) pe_int)) pa_nil)) (pv 1)))))))), ?_⟩
  have r0 : SqL K H b [.ref c, .int p, .int r, .int s, .int k] := SqL.of B.lb
  have rc : SqL K H c (ns.map V.int) := SqL.of B.lc
  refine ⟨fun σ' H2 => ∃ p r s k v2, σ' = [some (.ref b), some (.int many), v2, none, none] ∧ BagIs H2 b c ns p r s k ∧ Kp b H H2, ?_, ?_⟩
  · -- if bag[2] == 0 and bag[1] < len(bag[0])
    refine ⟨.ref b, rfl, b, _, 2, .int r, rfl, rfl, r0, rfl, rfl, _, rfl, ?_⟩
    refine ite2 (fun _ => ?_) (fun _ => ?_)
    case refine_2 => exact iteF ⟨p, r, s, k, none, rfl, B, Kp.refl b H⟩
    refine ⟨.ref b, rfl, b, _, 1, .int p, rfl, rfl, r0, rfl, .ref b, rfl, b, _, 0, .ref c, rfl, rfl, r0, rfl, c, _, rfl, .inl rc, p, _, rfl, rfl, _, rfl, ?_⟩
    refine ite2 (fun hp => ?_) (fun _ => ?_)
    case refine_2 => exact ⟨p, r, s, k, none, rfl, B, Kp.refl b H⟩
    have hp' : p < ((ns.map V.int).length : Int) := of_decide_eq_true hp
    rw [List.length_map] at hp'
    have hpn : p.toNat < ns.length := by have := B.p0; omega
    have hcell : atI (ns.map V.int) p = some (.int ns[p.toNat]) := by
      have e : p = ((p.toNat : Nat) : Int) := by have := B.p0; omega
      have q : atI (ns.map V.int) ((p.toNat : Nat) : Int) = some (.int ns[p.toNat]) := atI_nat (by rw [List.getElem?_map, List.getElem?_eq_getElem hpn] <;> rfl)
      rw [← e] at q
      exact q
    -- cell = bag[0][bag[1]]; bag[1] = bag[1] + 1
    refine ⟨.ref b, rfl, b, _, 0, .ref c, rfl, rfl, r0, rfl, .ref b, rfl, b, _, 1, .int p, rfl, rfl, r0, rfl, c, _, p, _, rfl, rfl, rc, hcell, ?_⟩
    refine ⟨.ref b, rfl, b, _, 1, .int p, rfl, rfl, r0, rfl, p, 1, rfl, rfl, .ref b, rfl, b, _, 1, 1, rfl, rfl, B.lb, rfl, ?_⟩
    have B1 : BagIs (upd H b (.lst [.ref c, .int (p + 1), .int r, .int s, .int k])) b c ns (p + 1) r s k := B.put (by have := B.p0; omega) B.s0 B.s1 B.r0
    have k1 : Kp b H (upd H b (.lst [.ref c, .int (p + 1), .int r, .int s, .int k])) := fun a o e n => by rw [upd_ne n]; exact e
    -- if cell >= 10 ** 18
    refine ⟨_, rfl, 10, 18, rfl, rfl, ⟨by decide, by decide, by decide⟩, _, _, rfl, rfl, _, rfl, ?_⟩
    refine ite2 (fun hg => ?_) (fun _ => ?_)
    · have hg' : ns[p.toNat] ≥ (10 : Int) ^ (18 : Int).toNat := of_decide_eq_true hg
      have hg0 : 0 ≤ ns[p.toNat] := Int.le_trans (by decide) hg'
      refine ⟨_, rfl, .ref b, rfl, b, _, 2, 2, rfl, rfl, B1.lb, rfl, ?_⟩
      have e1 : upd (upd H b (.lst [.ref c, .int (p + 1), .int r, .int s, .int k])) b (.lst [.ref c, .int (p + 1), .int ns[p.toNat], .int s, .int k]) = upd H b (.lst [.ref c, .int (p + 1), .int ns[p.toNat], .int s, .int k]) := upd_upd
      refine ⟨p + 1, ns[p.toNat], s, k, _, rfl, ?_, ?_⟩
      · exact B1.put B1.p0 B.s0 B.s1 hg0
      · exact k1.trans fun a o e n => by rw [upd_ne n]; exact e
    · refine ⟨.ref b, rfl, b, _, 3, .int s, rfl, rfl, SqL.of B1.lb, rfl, s, 48623, rfl, rfl, .inr ⟨by decide, by decide⟩, ?_⟩
      refine ⟨_, rfl, .inl ⟨_, rfl, ?_⟩⟩
      refine ⟨_, 2147483399, rfl, rfl, (by show (0 : Int) < 2147483399; decide), ?_⟩
      refine ⟨_, 15017, rfl, rfl, .inr ⟨by decide, by decide⟩, ?_⟩
      refine ⟨_, _, rfl, rfl, _, 31, rfl, rfl, .inl ⟨_, rfl, ?_⟩⟩
      refine ⟨_, 2147483563, rfl, rfl, (by show (0 : Int) < 2147483563; decide), ?_⟩
      refine ⟨.ref b, rfl, b, _, 3, 3, rfl, rfl, B1.lb, rfl, ?_⟩
      refine ⟨p + 1, r, _, k, _, rfl, B1.put B1.p0 ?_ ?_ B.r0, k1.trans fun a o e n => by rw [upd_ne n]; exact e⟩
      · exact Int.emod_nonneg _ (by decide)
      · exact Int.lt_trans (Int.emod_lt_of_pos _ (by decide)) (by decide)
  · rintro σ' H2 ⟨p, r, s, k, v2, rfl, B, kp⟩
    have r0 : SqL K H2 b [.ref c, .int p, .int r, .int s, .int k] := SqL.of B.lb
    -- if bag[2] > 0
    refine ⟨.ref b, rfl, b, _, 2, .int r, rfl, rfl, r0, rfl, _, _, rfl, rfl, _, rfl, ?_⟩
    refine ite2 (fun _ => ?_) (fun _ => ?_)
    · refine ⟨.ref b, rfl, b, _, 2, .int r, rfl, rfl, r0, rfl, .inl ⟨_, rfl, ?_⟩⟩
      refine ⟨_, rfl, _, _, rfl, rfl, m0, ?_⟩
      refine ⟨.ref b, rfl, b, _, 2, .int r, rfl, rfl, r0, rfl, _, rfl, _, _, rfl, rfl, ⟨m0, m1⟩, ?_⟩
      refine ⟨.ref b, rfl, b, _, 2, 2, rfl, rfl, B.lb, rfl, ?_⟩
      refine ⟨_, rfl, ?_⟩
      exact q _ _ (Int.emod_nonneg _ (by omega)) (Int.emod_lt_of_pos _ m0) ⟨ns, p, _, s, k, B.put B.p0 B.s0 B.s1 (Int.ediv_nonneg B.r0 (by omega))⟩ (kp.trans fun a o e n => by rw [upd_ne n]; exact e)
    · -- bag[4] = bag[4] + 1; seed = bag[3]
      refine ⟨.ref b, rfl, b, _, 4, .int k, rfl, rfl, r0, rfl, k, 1, rfl, rfl, .ref b, rfl, b, _, 4, 4, rfl, rfl, B.lb, rfl, ?_⟩
      have B1 : BagIs (upd H2 b (.lst [.ref c, .int p, .int r, .int s, .int (k + 1)])) b c ns p r s (k + 1) := B.put B.p0 B.s0 B.s1 B.r0
      have k1 : Kp b H (upd H2 b (.lst [.ref c, .int p, .int r, .int s, .int (k + 1)])) := kp.trans fun a o e n => by rw [upd_ne n]; exact e
      refine ⟨.ref b, rfl, b, _, 3, .int s, rfl, rfl, SqL.of B1.lb, rfl, ?_⟩
      have hs0 := B.s0
      have hs1 := B.s1
      refine ⟨_, rfl, _, rfl, _, _, rfl, rfl, .inl ⟨by omega, by omega⟩, _, 7, rfl, rfl, .inr ⟨by decide, by decide⟩, ?_⟩
      refine ⟨_, rfl, _, 31159, rfl, rfl, .inr ⟨by decide, by decide⟩, _, _, rfl, rfl, ?_⟩
      refine ⟨.ref b, rfl, b, _, 4, .int (k + 1), rfl, rfl, SqL.of B1.lb, rfl, _, 1299841, rfl, rfl, .inr ⟨by decide, by decide⟩, _, _, rfl, rfl, ?_⟩
      refine ⟨_, 70003, rfl, rfl, .inl ⟨_, rfl, ?_⟩⟩
      refine ⟨_, 2147483543, rfl, rfl, (by show (0 : Int) < 2147483543; decide), ?_⟩
      refine ⟨.ref b, rfl, b, _, 3, 3, rfl, rfl, B1.lb, rfl, ?_⟩
      have B2 := B1.put (p' := p) (r' := r) (k' := k + 1) B.p0 (Int.emod_nonneg (s * s * 7 + s * 31159 + (k + 1) * 1299841 + 70003) (show (2147483543 : Int) ≠ 0 by decide)) (Int.lt_trans (Int.emod_lt_of_pos _ (by decide)) (by decide)) B.r0
      refine ⟨.ref b, rfl, b, _, 3, _, rfl, rfl, SqL.of B2.lb, rfl, _, 73, rfl, rfl, ⟨by decide, by decide⟩, ?_⟩
      refine ⟨.ref b, rfl, b, _, 3, _, rfl, rfl, SqL.of B2.lb, rfl, .inl ⟨_, rfl, ?_⟩⟩
      refine ⟨_, 7919, rfl, rfl, (by show (0 : Int) < 7919; decide), _, 59, rfl, rfl, .inr ⟨by decide, by decide⟩, ?_⟩
      refine ⟨_, _, rfl, rfl, .inl ⟨_, rfl, ?_⟩⟩
      refine ⟨_, rfl, _, _, rfl, rfl, m0, ?_⟩
      exact q _ _ (Int.emod_nonneg _ (by omega)) (Int.emod_lt_of_pos _ m0) ⟨ns, p, _, _, _, B2⟩ (k1.trans fun a o e n => by rw [upd_ne n]; exact e)

/-! the bag is made -/
theorem cut_ints (ns : List Int) (lo hi : Option Int) : ∃ ms : List Int, cutV (ns.map V.int) lo hi = ms.map V.int ∧ ms.length ≤ ns.length := by
  refine ⟨(ns.drop (HT.sIx ns.length 0 lo)).take (HT.sIx ns.length ns.length hi - HT.sIx ns.length 0 lo), ?_, ?_⟩
  · unfold cutV
    rw [List.length_map, List.map_take, List.map_drop]
  · rw [List.length_take, List.length_drop]
    omega
def spBag (K : PySem.W.Frag) : Sp := fun vs H Q _ => ∃ (a : Addr) (ns : List Int), vs = [.ref a] ∧ SqL K H a (ns.map V.int) ∧ ns.length ≤ 63 ∧
  ∀ (b c : Addr) (H' : Hp), Same H H' → H b = none → H c = none → Bag H' b c → Q (.ref b) H'
theorem scBag : FnScope ["_law_script"] ["_law_script"] (defScope sBag) := ⟨rfl, rfl, rfl, by decide +kernel, rfl, by decide +kernel, by decide +kernel⟩
theorem ok_bag {f : Addr} {fd : FuncData} (F : Fun K "_law_bag" "_law_bag" sBag f fd) (mlen : mg "len" = none) (mlist : mg "list" = none) : FnOk P w K mg base CX0 1 f fd ["_law_script"] (spBag K) := by
  refine F.ok scBag (fun vs H Q E h => ?_) (fun cdv A outer s H vs Q E hr h => ?_)
  · obtain ⟨a, ns, rfl, _⟩ := h
    rfl
  obtain ⟨a, ns, rfl, hS, h63, q⟩ := h
  refine ⟨_, pss_one (ps_ret (pe_lst (pa_cons (pe_callTy call_list_of (by rfl) mlist (by decide +kernel) (pa_cons (pe_slice sl_list (pv 0) po_none (po_some pe_int)) pa_nil)) (pa_cons pe_int (pa_cons pe_int (pa_cons (pe_op op_add pe_int (pe_callB call_len_seq (by rfl) mlen PySem.boot_len (pa_cons (pv 0) pa_nil))) (pa_cons pe_int pa_nil))))))), ?_⟩
  obtain ⟨ms, em, hm⟩ := cut_ints ns none (some 63)
  refine ⟨_, rfl, 63, rfl, a, _, rfl, hS, fun x hx => ?_⟩
  rw [em]
  have s1 := same_upd hx (.lst (ms.map V.int))
  refine ⟨x, _, rfl, .inl (SqL.of upd_same), fun y hy => ?_⟩
  have s2 := s1.trans (same_upd hy (.lst (ms.map V.int)))
  refine ⟨_, rfl, a, _, rfl, .inl (s2.seq hS), _, _, rfl, rfl, (by show 5 ≤ sizeLine; decide), fun b hb => ?_⟩
  have hb0 : H b = none := s2.free hb
  have hyb : y ≠ b := fun e => by
    rw [← e, upd_same] at hb
    cases hb
  refine q b y _ (s2.trans (same_upd hb _)) hb0 (s1.free hy) ⟨ms, 0, 0, _, 0, upd_same, ?_, by omega, by decide, ?_, ?_, by decide⟩
  · rw [upd_ne hyb, upd_same]
  · show (0 : Int) ≤ 12002 + ((ns.map V.int).length : Int)
    omega
  · show 12002 + ((ns.map V.int).length : Int) < 2147483648
    rw [List.length_map]
    omega
/-! one of several things -/
theorem Kp.seqL {b : Addr} {H H' : Hp} (x : Kp b H H') {a : Addr} {xs : List V} (n : a ≠ b) (h : SqL K H a xs) : SqL K H' a xs := by
  rcases h with (h | ⟨o, h⟩) | h
  · exact .inl (.inl (x _ _ h n))
  · exact .inl (.inr ⟨o, x _ _ h n⟩)
  · exact .inr h
theorem Kp.seqT {b : Addr} {H H' : Hp} (x : Kp b H H') {a : Addr} {xs : List V} (n : a ≠ b) (h : SqT K H a xs) : SqT K H' a xs := by
  rcases h with (h | ⟨o, h⟩) | h
  · exact .inl (.inl (x _ _ h n))
  · exact .inl (.inr ⟨o, x _ _ h n⟩)
  · exact .inr h
/-- what may be drawn from -/
def Menu (K : PySem.W.Frag) (H : Hp) (b : Addr) (x : V) (its : List V) : Prop :=
  (∃ a, x = .ref a ∧ a ≠ b ∧ SqL K H a its) ∨ (∃ a, x = .ref a ∧ a ≠ b ∧ SqT K H a its) ∨ (∃ z : Str, x = .str z ∧ z.length ≤ sizeLine ∧ its = z.cps.toList.map (fun c => V.str ⟨#[c]⟩))
def spAny (K : PySem.W.Frag) : Sp := fun vs H Q _ => ∃ (b c : Addr) (x : V) (its : List V), vs = [.ref b, x] ∧ Bag H b c ∧ Menu K H b x its ∧ 0 < its.length ∧ its.length < 1073741824 ∧
  ∀ (y : V) (H' : Hp), y ∈ its → Bag H' b c → Kp b H H' → Q y H'
theorem scAny : FnScope ["_law_bag_here", "_law_things"] ["_law_bag_here", "_law_things"] (defScope sAny) := ⟨rfl, rfl, rfl, by decide +kernel, rfl, by decide +kernel, by decide +kernel⟩
theorem str_len (z : Str) : z.length = z.cps.toList.length := by
  show z.cps.size = _
  rw [Array.length_toList]
theorem ok_any {f g : Addr} {fd gd : FuncData} (F : Fun K "_law_any" "_law_any" sAny f fd) (G : FnOk P w K mg base CX0 1 g gd ["_law_bag_here", "_law_many"] spPull) (bG : Binds K gd ["_law_bag_here", "_law_many"] []) (kG : PySem.W.keepIn K (.ref g) = true) (mG : mg "_law_pull" = some (.ref g))
    (mlen : mg "len" = none) : FnOk P w K mg base CX0 2 f fd ["_law_bag_here", "_law_things"] (spAny K) := by
  refine F.ok scAny (fun vs H Q E h => ?_) (fun cdv A outer s H vs Q E hr h => ?_)
  · obtain ⟨b, c, x, its, rfl, _⟩ := h
    rfl
  obtain ⟨b, c, x, its, rfl, B, M, l0, l1, q⟩ := h
  refine ⟨_, pss_one (ps_ret (pe_ix ix_seq (pv 1) (pe_call G hr (by rfl) mG kG bG .nil pass0 (pa_cons (pv 0) (pa_cons (pe_callB call_len (by rfl) mlen PySem.boot_len (pa_cons (pv 1) pa_nil)) pa_nil))) (fun _ _ => rfl))), ?_⟩
  have hlen : LenV K x H its.length := by
    rcases M with ⟨a, rfl, _, h⟩ | ⟨a, rfl, _, h⟩ | ⟨z, rfl, hz, rfl⟩
    · exact .inl ⟨_, h, rfl⟩
    · exact .inr ⟨_, h, rfl⟩
    · exact ⟨hz, by rw [List.length_map, str_len]⟩
  refine ⟨x, rfl, .ref b, rfl, x, rfl, x, its.length, rfl, hlen, b, c, _, rfl, B, by omega, by omega, fun d H' d0 d1 B' kp => ?_⟩
  have hd : d.toNat < its.length := by omega
  have ed : d = ((d.toNat : Nat) : Int) := by omega
  have hat : atI its d = some its[d.toNat] := by
    have e : atI its ((d.toNat : Nat) : Int) = some its[d.toNat] := atI_nat (by rw [List.getElem?_eq_getElem hd])
    rw [← ed] at e
    exact e
  have fin : Q its[d.toNat] H' := q _ _ (List.getElem_mem hd) B' kp
  rcases M with ⟨a, rfl, na, h⟩ | ⟨a, rfl, na, h⟩ | ⟨z, rfl, hz, rfl⟩
  · exact .inl ⟨a, _, d, _, rfl, rfl, kp.seqL na h, hat, fin⟩
  · exact .inr (.inl ⟨a, _, d, _, rfl, rfl, kp.seqT na h, hat, fin⟩)
  · have hc : d.toNat < z.cps.toList.length := by
      rw [List.length_map] at hd
      exact hd
    have e : atI z.cps.toList ((d.toNat : Nat) : Int) = some z.cps.toList[d.toNat] := atI_nat (by rw [List.getElem?_eq_getElem hc])
    rw [← ed] at e
    have e2 : (z.cps.toList.map (fun c => V.str ⟨#[c]⟩))[d.toNat] = V.str ⟨#[z.cps.toList[d.toNat]]⟩ := by rw [List.getElem_map]
    rw [e2] at fin
    exact .inr (.inr ⟨z, d, _, rfl, rfl, hz, e, fin⟩)
/-! two values that are equal and of the same kinds -/
abbrev sSame : Stmt := top 65
def Leaf : V → Prop
  | .non => True | .bl _ => True | .int _ => True | .str _ => True | _ => False
def Eqv (H : Hp) : Nat → V → V → Prop
  | 0, x, y => Leaf x ∧ x = y
  | n + 1, x, y => (Leaf x ∧ x = y) ∨ ∃ (a b : Addr) (xs ys : List V), x = .ref a ∧ y = .ref b ∧ xs.length = ys.length ∧ xs.length ≤ 100000 ∧ ((H a = some (.lst xs) ∧ H b = some (.lst ys)) ∨ (H a = some (.tup xs) ∧ H b = some (.tup ys))) ∧
      ∀ (i : Nat) (u v : V), xs[i]? = some u → ys[i]? = some v → Eqv H n u v
theorem Eqv.same {H H' : Hp} (s : Same H H') : ∀ {n : Nat} {x y : V}, Eqv H n x y → Eqv H' n x y
  | 0, _, _, h => h
  | n + 1, _, _, h => by
    rcases h with h | ⟨a, b, xs, ys, e1, e2, l, z, h, k⟩
    · exact .inl h
    · refine .inr ⟨a, b, xs, ys, e1, e2, l, z, ?_, fun i u v hu hv => Eqv.same s (k i u v hu hv)⟩
      rcases h with ⟨h1, h2⟩ | ⟨h1, h2⟩
      · exact .inl ⟨s _ _ h1, s _ _ h2⟩
      · exact .inr ⟨s _ _ h1, s _ _ h2⟩
theorem Eqv.leaf {H : Hp} {x : V} (h : Leaf x) : ∀ n, Eqv H n x x
  | 0 => ⟨h, rfl⟩
  | _ + 1 => .inl ⟨h, rfl⟩
def spSame : Nat → Sp
  | 0 => fun _ _ _ _ => False
  | n + 1 => fun vs H Q _ => ∃ (x y : V), vs = [x, y] ∧ Eqv H n x y ∧ ∀ H', Same H H' → Q (.bl true) H'
theorem kitLT {K : PySem.W.Frag} {a : String} {r1 r2 : Bool} (h1 : kitB a "list" = some r1) (h2 : kitB a "tuple" = some r2) : PySem.W.kitAny K (.type a) [.type "list", .type "tuple"] = some (r1 || r2) := by
  cases r1 with
  | true => exact kitAny_cons (kit_ty h1) (fun z => nomatch z) (fun _ => rfl)
  | false =>
    refine kitAny_cons (kit_ty h1) (fun _ => ?_) (fun z => nomatch z)
    cases r2 with
    | true => exact kitAny_cons (kit_ty h2) (fun z => nomatch z) (fun _ => rfl)
    | false => exact kitAny_cons (kit_ty h2) (fun _ => kitAny_nil) (fun z => nomatch z)
/-- a comprehension over zip, turn by turn -/
theorem lc_zipL {K : PySem.W.Frag} {a b : Addr} {xs ys : List V} {g : TG} {te : TE} {vs : List Nat} {σ : L2.St} {H1 : Hp} {D : Addr} {Qd : Hp → Prop} (hl : xs.length = ys.length) (Pv : Nat → Hp → Prop) (h0 : Pv 0 (upd H1 D (.lst []))) (hq : ∀ i H, Pv i H → SqL K H a xs ∧ SqL K H b ys)
    (hs : ∀ (i : Nat) (x y : V) (T : Addr) (H : Hp), xs[i]? = some x → ys[i]? = some y → Pv i H → H T = none → g (.ref T) (wipe σ vs) (upd H T (.tup [x, y])) fun σ2 H2 => wipe σ2 vs = wipe σ vs ∧ te σ2 H2 fun y H4 => ∃ acc, H4 D = some (.lst acc) ∧ acc.length < sizeLine ∧ Pv (i + 1) (upd H4 D (.lst (acc ++ [y])))) (hd : ∀ H, Pv xs.length H → Qd H) :
    ∃ W : Nat → Nat → Hp → Prop, (∃ m, W 0 m (upd H1 D (.lst []))) ∧ ∀ i m H, W i m H →
      ((Itz K a b).stop i H ∧ Qd H) ∨ ((Itz K a b).go i H ∧ ∃ Nx : Hp → Prop, (∀ H', Nx H' → ∃ m', m' < m ∧ W (i + 1) m' H') ∧ ∀ x H', (Itz K a b).yld i H x H' → g x (wipe σ vs) H' fun σ2 H2 => wipe σ2 vs = wipe σ vs ∧ tYes σ2 H2 fun b H3 =>
        if b = true then te σ2 H3 fun y H4 => ∃ acc, H4 D = some (.lst acc) ∧ acc.length < sizeLine ∧ Nx (upd H4 D (.lst (acc ++ [y]))) else Nx H3) := by
  refine ⟨fun i m H => m = xs.length - i ∧ i ≤ xs.length ∧ Pv i H, ⟨xs.length, rfl, Nat.zero_le _, h0⟩, ?_⟩
  rintro i m H ⟨rfl, hi, p⟩
  obtain ⟨qx, qy⟩ := hq i H p
  by_cases hlt : i < xs.length
  · have hx : xs[i]? = some xs[i] := List.getElem?_eq_getElem hlt
    have hlt2 : i < ys.length := by omega
    have hy : ys[i]? = some ys[i] := List.getElem?_eq_getElem hlt2
    refine .inr ⟨⟨xs, ys, _, _, qx, qy, hx, hy⟩, Pv (i + 1), fun H' p' => ⟨xs.length - (i + 1), by omega, rfl, hlt, p'⟩, fun v H' y => ?_⟩
    obtain ⟨T, x', y', rfl, hT, rfl, f1, f2⟩ := y
    exact hs i x' y' T H (f1 xs qx) (f2 ys qy) p hT
  · have e : i = xs.length := by omega
    subst e
    exact .inl ⟨⟨xs, ys, qx, qy, Or.inl (Nat.le_refl _)⟩, hd H p⟩
theorem lc_zipT {K : PySem.W.Frag} {a b : Addr} {xs ys : List V} {g : TG} {te : TE} {vs : List Nat} {σ : L2.St} {H1 : Hp} {D : Addr} {Qd : Hp → Prop} (hl : xs.length = ys.length) (Pv : Nat → Hp → Prop) (h0 : Pv 0 (upd H1 D (.lst []))) (hq : ∀ i H, Pv i H → SqT K H a xs ∧ SqT K H b ys)
    (hs : ∀ (i : Nat) (x y : V) (T : Addr) (H : Hp), xs[i]? = some x → ys[i]? = some y → Pv i H → H T = none → g (.ref T) (wipe σ vs) (upd H T (.tup [x, y])) fun σ2 H2 => wipe σ2 vs = wipe σ vs ∧ te σ2 H2 fun y H4 => ∃ acc, H4 D = some (.lst acc) ∧ acc.length < sizeLine ∧ Pv (i + 1) (upd H4 D (.lst (acc ++ [y])))) (hd : ∀ H, Pv xs.length H → Qd H) :
    ∃ W : Nat → Nat → Hp → Prop, (∃ m, W 0 m (upd H1 D (.lst []))) ∧ ∀ i m H, W i m H →
      ((RZ.ItzT K a b).stop i H ∧ Qd H) ∨ ((RZ.ItzT K a b).go i H ∧ ∃ Nx : Hp → Prop, (∀ H', Nx H' → ∃ m', m' < m ∧ W (i + 1) m' H') ∧ ∀ x H', (RZ.ItzT K a b).yld i H x H' → g x (wipe σ vs) H' fun σ2 H2 => wipe σ2 vs = wipe σ vs ∧ tYes σ2 H2 fun b H3 =>
        if b = true then te σ2 H3 fun y H4 => ∃ acc, H4 D = some (.lst acc) ∧ acc.length < sizeLine ∧ Nx (upd H4 D (.lst (acc ++ [y]))) else Nx H3) := by
  refine ⟨fun i m H => m = xs.length - i ∧ i ≤ xs.length ∧ Pv i H, ⟨xs.length, rfl, Nat.zero_le _, h0⟩, ?_⟩
  rintro i m H ⟨rfl, hi, p⟩
  obtain ⟨qx, qy⟩ := hq i H p
  by_cases hlt : i < xs.length
  · have hx : xs[i]? = some xs[i] := List.getElem?_eq_getElem hlt
    have hlt2 : i < ys.length := by omega
    have hy : ys[i]? = some ys[i] := List.getElem?_eq_getElem hlt2
    refine .inr ⟨⟨xs, ys, _, _, qx, qy, hx, hy⟩, Pv (i + 1), fun H' p' => ⟨xs.length - (i + 1), by omega, rfl, hlt, p'⟩, fun v H' y => ?_⟩
    obtain ⟨T, x', y', rfl, hT, rfl, f1, f2⟩ := y
    exact hs i x' y' T H (f1 xs qx) (f2 ys qy) p hT
  · have e : i = xs.length := by omega
    subst e
    exact .inl ⟨⟨xs, ys, qx, qy, Or.inl (Nat.le_refl _)⟩, hd H p⟩
/-- the built-in names that _law_same reads -/
structure SameTxt (mg : Str → Option Value) : Prop where
  isi : mg "isinstance" = none
  list : mg "list" = none
  tuple : mg "tuple" = none
  len : mg "len" = none
  all : mg "all" = none
  zip : mg "zip" = none
  bool : mg "bool" = none
  int : mg "int" = none
  str : mg "str" = none
theorem scSame : FnScope ["_law_found", "_law_due", "_law_one", "_law_two"] ["_law_found", "_law_due"] (defScope sSame) := ⟨rfl, rfl, rfl, by decide +kernel, rfl, by decide +kernel, by decide +kernel⟩
theorem all_true (n : Nat) : (List.replicate n true).all id = true := by
  induction n with
  | zero => rfl
  | succ n ih => rw [List.replicate_succ, List.all_cons, ih]; rfl
theorem ok_same {f : Addr} {fd : FuncData} {n : Nat} (F : Fun K "_law_same" "_law_same" sSame f fd) (T : SameTxt mg) (G : FnOk P w K mg base CX0 n f fd ["_law_found", "_law_due"] (spSame n)) (bG : Binds K fd ["_law_found", "_law_due"] []) (kG : PySem.W.keepIn K (.ref f) = true) (mG : mg "_law_same" = some (.ref f)) :
    FnOk P w K mg base CX0 (n + 1) f fd ["_law_found", "_law_due"] (spSame (n + 1)) := by
  refine F.ok scSame (fun vs H Q E h => ?_) (fun cdv A outer s H vs Q E hr h => ?_)
  · obtain ⟨x, y, rfl, _⟩ := h
    rfl
  obtain ⟨x, y, rfl, e, q⟩ := h
  refine ⟨_, pss_cons (ps_if (pt_val (pe_callB call_isiT (by rfl) T.isi (by decide +kernel) (pa_cons (pv 1) (pa_cons (pe_tup (pa_cons (pe_bltn (v := .ty "list") (by rfl) T.list (by decide +kernel) rfl) (pa_cons (pe_bltn (v := .ty "tuple") (by rfl) T.tuple (by decide +kernel) rfl) pa_nil))) pa_nil))))
      (pss_cons (ps_if (PW.pt (pw_or (pt_cmpR op_ne (pe_callB call_isi (by rfl) T.isi (by decide +kernel) (pa_cons (pv 0) (pa_cons (pe_bltn (v := .ty "list") (by rfl) T.list (by decide +kernel) rfl) pa_nil))) (pe_callB call_isi (by rfl) T.isi (by decide +kernel) (pa_cons (pv 1) (pa_cons (pe_bltn (v := .ty "list") (by rfl) T.list (by decide +kernel) rfl) pa_nil))) (nomark _))
          (pw_or1 (pt_cmpR op_ne (pe_callB call_isi (by rfl) T.isi (by decide +kernel) (pa_cons (pv 0) (pa_cons (pe_bltn (v := .ty "tuple") (by rfl) T.tuple (by decide +kernel) rfl) pa_nil))) (pe_callB call_isi (by rfl) T.isi (by decide +kernel) (pa_cons (pv 1) (pa_cons (pe_bltn (v := .ty "tuple") (by rfl) T.tuple (by decide +kernel) rfl) pa_nil))) (nomark _)))))
          (pss_one (ps_ret pe_bl)) pss_nil)
      (pss_one (ps_ret (pe_and (pe_cmpR op_eq (pe_callB call_len_seq (by rfl) T.len PySem.boot_len (pa_cons (pv 0) pa_nil)) (pe_callB call_len_seq (by rfl) T.len PySem.boot_len (pa_cons (pv 1) pa_nil)) (nomark _)) (pe_one (pe_callB (cr_all rfl) (by rfl) T.all (by decide +kernel) (pa_cons
          (pe_lc (own := [("_law_one", 2), ("_law_two", 3)]) (g := gTup K 2 (gCons (gName 2) (gCons (gName 3) gNil))) rfl scSame.nd (RZ.pi_zipA (by rfl) T.zip (pa_cons (pv 0) (pa_cons (pv 1) pa_nil))) (blkOk_by (own := [("_law_one", 2), ("_law_two", 3)]) (N := ["_law_found", "_law_due", "_law_one", "_law_two"]) (sc := defScope sSame) (by decide +kernel))
            (fun _ _ _ _ _ => pg_tup (n := 2) rfl (pgs_cons (pg_name (i := 2) scSame.nd rfl (Or.inl rfl) (Or.inr rfl)) (pgs_cons (pg_name (i := 3) scSame.nd rfl (Or.inl rfl) (Or.inr rfl)) pgs_nil))) (fun _ _ _ _ _ => pts_nil)
            (fun _ _ _ _ _ => pe_call G hr (by rfl) mG kG bG .nil pass0 (pa_cons (pv 2) (pa_cons (pv 3) pa_nil)))) pa_nil)))))))
      pss_nil)
    (pss_cons (ps_if (PW.pt (pw_or (pt_cmpR op_isN (pv 1) pe_non (nomark _)) (pw_or1 (pt_cmpR op_isN (pv 0) pe_non (nomark _))))) (pss_one (ps_ret (pe_and (pe_cmpR op_isN (pv 1) pe_non (nomark _)) (pe_one (pe_cmpR op_isN (pv 0) pe_non (nomark _)))))) pss_nil)
    (pss_cons (ps_if (PW.pt (pw_or (pt_cmpR op_ne (pe_callB call_isi (by rfl) T.isi (by decide +kernel) (pa_cons (pv 0) (pa_cons (pe_bltn (v := .ty "bool") (by rfl) T.bool (by decide +kernel) rfl) pa_nil))) (pe_callB call_isi (by rfl) T.isi (by decide +kernel) (pa_cons (pv 1) (pa_cons (pe_bltn (v := .ty "bool") (by rfl) T.bool (by decide +kernel) rfl) pa_nil))) (nomark _))
          (pw_or1 (pt_cmpR op_ne (pe_callB call_isi (by rfl) T.isi (by decide +kernel) (pa_cons (pv 0) (pa_cons (pe_bltn (v := .ty "int") (by rfl) T.int (by decide +kernel) rfl) pa_nil))) (pe_callB call_isi (by rfl) T.isi (by decide +kernel) (pa_cons (pv 1) (pa_cons (pe_bltn (v := .ty "int") (by rfl) T.int (by decide +kernel) rfl) pa_nil))) (nomark _)))))
          (pss_one (ps_ret pe_bl)) pss_nil)
    (pss_one (ps_ret (pe_and (pe_cmpR op_eq (pe_callB call_isi (by rfl) T.isi (by decide +kernel) (pa_cons (pv 0) (pa_cons (pe_bltn (v := .ty "str") (by rfl) T.str (by decide +kernel) rfl) pa_nil))) (pe_callB call_isi (by rfl) T.isi (by decide +kernel) (pa_cons (pv 1) (pa_cons (pe_bltn (v := .ty "str") (by rfl) T.str (by decide +kernel) rfl) pa_nil))) (nomark _)) (pe_one (pe_cmpR op_eq (pv 0) (pv 1) (nomark _)))))))), ?_⟩
  have ht : ∀ t, H t = none → Same H (upd H t (.tup [.ty "list", .ty "tuple"])) := fun t h => same_upd h _
  have hz : ([V.ty "list", V.ty "tuple"] : List V).length ≤ sizeLine := by show 2 ≤ sizeLine; decide
  have kinds : (Leaf x ∧ x = y) ∨ ∃ (m : Nat) (a b : Addr) (xs ys : List V), n = m + 1 ∧ x = .ref a ∧ y = .ref b ∧ xs.length = ys.length ∧ xs.length ≤ 100000 ∧ ((H a = some (.lst xs) ∧ H b = some (.lst ys)) ∨ (H a = some (.tup xs) ∧ H b = some (.tup ys))) ∧
      ∀ (i : Nat) (u v : V), xs[i]? = some u → ys[i]? = some v → Eqv H m u v := by
    cases n with
    | zero => exact .inl e
    | succ m =>
      rcases e with e | ⟨a, b, xs, ys, e⟩
      · exact .inl e
      · exact .inr ⟨m, a, b, xs, ys, rfl, e⟩
  rcases kinds with ⟨lx, exy⟩ | ⟨m, a, b, xs, ys, rfl, rfl, rfl, hl, h100, hk, el⟩
  · subst exy
    cases x with
    | non =>
      refine ⟨_, rfl, hz, fun t h => ?_⟩
      refine ⟨_, t, _, _, [.type "list", .type "tuple"], _, rfl, upd_same, .cons (.ty _) (.cons (.ty _) .nil), (.base .non), kitLT (r1 := false) (r2 := false) (by decide +kernel) (by decide +kernel), ?_⟩
      refine ⟨_, rfl, iteF ?_⟩
      refine ⟨_, rfl, rfl, _, rfl, iteT ?_⟩
      refine ⟨_, rfl, rfl, _, rfl, iteT ?_⟩
      refine ⟨_, rfl, rfl, ?_⟩
      exact q _ (ht t h)
    | bl z =>
      refine ⟨_, rfl, hz, fun t h => ?_⟩
      refine ⟨_, t, _, _, [.type "list", .type "tuple"], _, rfl, upd_same, .cons (.ty _) (.cons (.ty _) .nil), (.base (.bl z)), kitLT (r1 := false) (r2 := false) (by decide +kernel) (by decide +kernel), ?_⟩
      refine ⟨_, rfl, iteF ?_⟩
      refine ⟨_, rfl, rfl, _, rfl, iteF ?_⟩
      refine ⟨_, rfl, rfl, _, rfl, iteF ?_⟩
      refine ⟨_, rfl, _, _, _, _, true, rfl, .ty _, (.base (.bl z)), kit_ty (by decide +kernel), _, rfl, _, _, _, _, true, rfl, .ty _, (.base (.bl z)), kit_ty (by decide +kernel), rfl, _, rfl, iteF ?_⟩
      refine ⟨_, rfl, _, _, _, _, true, rfl, .ty _, (.base (.bl z)), kit_ty (by decide +kernel), _, rfl, _, _, _, _, true, rfl, .ty _, (.base (.bl z)), kit_ty (by decide +kernel), rfl, _, rfl, iteF ?_⟩
      refine ⟨_, rfl, _, _, _, _, false, rfl, .ty _, (.base (.bl z)), kit_ty (by decide +kernel), _, rfl, _, _, _, _, false, rfl, .ty _, (.base (.bl z)), kit_ty (by decide +kernel), rfl, _, rfl, iteT ?_⟩
      refine ⟨_, rfl, _, rfl, rfl, ?_⟩
      rw [decide_eq_true rfl]
      exact q _ (ht t h)
    | int z =>
      refine ⟨_, rfl, hz, fun t h => ?_⟩
      refine ⟨_, t, _, _, [.type "list", .type "tuple"], _, rfl, upd_same, .cons (.ty _) (.cons (.ty _) .nil), (.base (.int z)), kitLT (r1 := false) (r2 := false) (by decide +kernel) (by decide +kernel), ?_⟩
      refine ⟨_, rfl, iteF ?_⟩
      refine ⟨_, rfl, rfl, _, rfl, iteF ?_⟩
      refine ⟨_, rfl, rfl, _, rfl, iteF ?_⟩
      refine ⟨_, rfl, _, _, _, _, false, rfl, .ty _, (.base (.int z)), kit_ty (by decide +kernel), _, rfl, _, _, _, _, false, rfl, .ty _, (.base (.int z)), kit_ty (by decide +kernel), rfl, _, rfl, iteF ?_⟩
      refine ⟨_, rfl, _, _, _, _, true, rfl, .ty _, (.base (.int z)), kit_ty (by decide +kernel), _, rfl, _, _, _, _, true, rfl, .ty _, (.base (.int z)), kit_ty (by decide +kernel), rfl, _, rfl, iteF ?_⟩
      refine ⟨_, rfl, _, _, _, _, false, rfl, .ty _, (.base (.int z)), kit_ty (by decide +kernel), _, rfl, _, _, _, _, false, rfl, .ty _, (.base (.int z)), kit_ty (by decide +kernel), rfl, _, rfl, iteT ?_⟩
      refine ⟨_, rfl, _, rfl, rfl, ?_⟩
      rw [decide_eq_true rfl]
      exact q _ (ht t h)
    | str z =>
      refine ⟨_, rfl, hz, fun t h => ?_⟩
      refine ⟨_, t, _, _, [.type "list", .type "tuple"], _, rfl, upd_same, .cons (.ty _) (.cons (.ty _) .nil), (.base (.str z)), kitLT (r1 := false) (r2 := false) (by decide +kernel) (by decide +kernel), ?_⟩
      refine ⟨_, rfl, iteF ?_⟩
      refine ⟨_, rfl, rfl, _, rfl, iteF ?_⟩
      refine ⟨_, rfl, rfl, _, rfl, iteF ?_⟩
      refine ⟨_, rfl, _, _, _, _, false, rfl, .ty _, (.base (.str z)), kit_ty (by decide +kernel), _, rfl, _, _, _, _, false, rfl, .ty _, (.base (.str z)), kit_ty (by decide +kernel), rfl, _, rfl, iteF ?_⟩
      refine ⟨_, rfl, _, _, _, _, false, rfl, .ty _, (.base (.str z)), kit_ty (by decide +kernel), _, rfl, _, _, _, _, false, rfl, .ty _, (.base (.str z)), kit_ty (by decide +kernel), rfl, _, rfl, iteF ?_⟩
      refine ⟨_, rfl, _, _, _, _, true, rfl, .ty _, (.base (.str z)), kit_ty (by decide +kernel), _, rfl, _, _, _, _, true, rfl, .ty _, (.base (.str z)), kit_ty (by decide +kernel), rfl, _, rfl, iteT ?_⟩
      refine ⟨_, rfl, _, rfl, rfl, ?_⟩
      rw [decide_eq_true rfl]
      exact q _ (ht t h)
    | _ => exact lx.elim
  · -- what a turn brings: the item's answer True is appended
    have turn : ∀ (D : Addr), H D = none → ∀ (i : Nat) (u v : V) (T : Addr) (H2 : Hp), xs[i]? = some u → ys[i]? = some v → (Same H H2 ∧ H2 D = some (.lst (List.replicate i (.bl true)))) → H2 T = none → True := fun _ _ _ _ _ _ _ _ _ _ _ => trivial
    rcases hk with ⟨ha, hb⟩ | ⟨ha, hb⟩
    · refine ⟨_, rfl, hz, fun t h => ?_⟩
      have s1 := ht t h
      refine ⟨_, t, _, _, [.type "list", .type "tuple"], _, rfl, upd_same, .cons (.ty _) (.cons (.ty _) .nil), (.base (.lst (s1 _ _ hb))), kitLT (r1 := true) (r2 := false) (by decide +kernel) (by decide +kernel), ?_⟩
      refine ⟨_, rfl, iteT ?_⟩
      refine ⟨_, rfl, _, _, _, _, true, rfl, .ty _, (.base (.lst (s1 _ _ ha))), kit_ty (by decide +kernel), _, rfl, _, _, _, _, true, rfl, .ty _, (.base (.lst (s1 _ _ hb))), kit_ty (by decide +kernel), rfl, _, rfl, iteF ?_⟩
      refine ⟨_, rfl, _, _, _, _, false, rfl, .ty _, (.base (.lst (s1 _ _ ha))), kit_ty (by decide +kernel), _, rfl, _, _, _, _, false, rfl, .ty _, (.base (.lst (s1 _ _ hb))), kit_ty (by decide +kernel), rfl, _, rfl, iteF ?_⟩
      refine ⟨_, rfl, a, _, rfl, .inl (SqL.of (s1 _ _ ha)), _, rfl, b, _, rfl, .inl (SqL.of (s1 _ _ hb)), rfl, _, rfl, ?_⟩
      rw [show decide (V.int ((xs.length : Nat) : Int) = V.int ((ys.length : Nat) : Int)) = true from decide_eq_true (by rw [hl])]
      refine iteT ?_
      refine ⟨_, rfl, _, rfl, a, b, xs, ys, rfl, .inl ⟨SqL.of (s1 _ _ ha), SqL.of (s1 _ _ hb), fun D hD => ?_⟩⟩
      have s2 := s1.trans (same_upd hD (.lst []))
      refine lc_zipL hl (fun i H2 => Same H H2 ∧ H2 D = some (.lst (List.replicate i (.bl true)))) ⟨s2, upd_same⟩ (fun i H2 ⟨s3, _⟩ => ⟨SqL.of (s3 _ _ ha), SqL.of (s3 _ _ hb)⟩) (fun i u v T H2 hu hv ⟨s3, hD2⟩ hT => ?_) (fun H2 ⟨s3, hD2⟩ => ?_)
      · refine ⟨T, [u, v], rfl, SqT.of upd_same, rfl, u, [v], rfl, v, [], rfl, rfl, rfl, ?_⟩
        have s4 := s3.trans (same_upd hT (.tup [u, v]))
        refine ⟨_, rfl, _, rfl, u, v, rfl, (el i u v hu hv).same s4, fun H3 s5 => ?_⟩
        have hDT : D ≠ T := ne_of_none hD2 hT
        refine ⟨_, s5 _ _ (by rw [upd_ne hDT]; exact hD2), ?_, fun c o e => ?_, ?_⟩
        · rw [List.length_replicate]
          have : i < xs.length := (List.getElem?_eq_some_iff.mp hu).1
          exact Nat.lt_of_lt_of_le (show i < 100000 by omega) (by decide)
        · have nc : c ≠ D := ne_of_none e (s1.free hD)
          rw [upd_ne nc]
          exact s5 _ _ (s4 _ _ e)
        · rw [upd_same, ← List.replicate_succ']
      · refine ⟨D, List.replicate xs.length true, rfl, SqL.of (by rw [hD2, List.map_replicate]), ?_⟩
        rw [all_true]
        exact q _ s3
    · refine ⟨_, rfl, hz, fun t h => ?_⟩
      have s1 := ht t h
      refine ⟨_, t, _, _, [.type "list", .type "tuple"], _, rfl, upd_same, .cons (.ty _) (.cons (.ty _) .nil), (.base (.tup (s1 _ _ hb))), kitLT (r1 := false) (r2 := true) (by decide +kernel) (by decide +kernel), ?_⟩
      refine ⟨_, rfl, iteT ?_⟩
      refine ⟨_, rfl, _, _, _, _, false, rfl, .ty _, (.base (.tup (s1 _ _ ha))), kit_ty (by decide +kernel), _, rfl, _, _, _, _, false, rfl, .ty _, (.base (.tup (s1 _ _ hb))), kit_ty (by decide +kernel), rfl, _, rfl, iteF ?_⟩
      refine ⟨_, rfl, _, _, _, _, true, rfl, .ty _, (.base (.tup (s1 _ _ ha))), kit_ty (by decide +kernel), _, rfl, _, _, _, _, true, rfl, .ty _, (.base (.tup (s1 _ _ hb))), kit_ty (by decide +kernel), rfl, _, rfl, iteF ?_⟩
      refine ⟨_, rfl, a, _, rfl, .inr (SqT.of (s1 _ _ ha)), _, rfl, b, _, rfl, .inr (SqT.of (s1 _ _ hb)), rfl, _, rfl, ?_⟩
      rw [show decide (V.int ((xs.length : Nat) : Int) = V.int ((ys.length : Nat) : Int)) = true from decide_eq_true (by rw [hl])]
      refine iteT ?_
      refine ⟨_, rfl, _, rfl, a, b, xs, ys, rfl, .inr ⟨SqT.of (s1 _ _ ha), SqT.of (s1 _ _ hb), fun D hD => ?_⟩⟩
      have s2 := s1.trans (same_upd hD (.lst []))
      refine lc_zipT hl (fun i H2 => Same H H2 ∧ H2 D = some (.lst (List.replicate i (.bl true)))) ⟨s2, upd_same⟩ (fun i H2 ⟨s3, _⟩ => ⟨SqT.of (s3 _ _ ha), SqT.of (s3 _ _ hb)⟩) (fun i u v T H2 hu hv ⟨s3, hD2⟩ hT => ?_) (fun H2 ⟨s3, hD2⟩ => ?_)
      · refine ⟨T, [u, v], rfl, SqT.of upd_same, rfl, u, [v], rfl, v, [], rfl, rfl, rfl, ?_⟩
        have s4 := s3.trans (same_upd hT (.tup [u, v]))
        refine ⟨_, rfl, _, rfl, u, v, rfl, (el i u v hu hv).same s4, fun H3 s5 => ?_⟩
        have hDT : D ≠ T := ne_of_none hD2 hT
        refine ⟨_, s5 _ _ (by rw [upd_ne hDT]; exact hD2), ?_, fun c o e => ?_, ?_⟩
        · rw [List.length_replicate]
          have : i < xs.length := (List.getElem?_eq_some_iff.mp hu).1
          exact Nat.lt_of_lt_of_le (show i < 100000 by omega) (by decide)
        · have nc : c ≠ D := ne_of_none e (s1.free hD)
          rw [upd_ne nc]
          exact s5 _ _ (s4 _ _ e)
        · rw [upd_same, ← List.replicate_succ']
      · refine ⟨D, List.replicate xs.length true, rfl, SqL.of (by rw [hD2, List.map_replicate]), ?_⟩
        rw [all_true]
        exact q _ s3
theorem no_same {f : Addr} {fd : FuncData} : FnOk P w K mg base CX0 0 f fd ["_law_found", "_law_due"] (spSame 0) :=
  ⟨fun vs H Q E h => False.elim h, fun A outer s H args us vs Q E _ _ _ _ h => False.elim h⟩
theorem all_same {f : Addr} {fd : FuncData} (F : Fun K "_law_same" "_law_same" sSame f fd) (T : SameTxt mg) (bG : Binds K fd ["_law_found", "_law_due"] []) (mG : mg "_law_same" = some (.ref f)) :
    ∀ n, FnOk P w K mg base CX0 n f fd ["_law_found", "_law_due"] (spSame n)
  | 0 => no_same
  | n + 1 => ok_same F T (all_same F T bG mG n) bG F.kp mG
/-! ### a call by keywords alone -/
open PySem.Spec PyProof.Rows in
theorem pe_callN0 {X : Cx} {CX : CXT} {k : Nat} {f : Addr} {fd : FuncData} {ps ks : List Str} {sp : Sp} {E : XK} {x : Str} {p pos : Pos} {kws : List Keyword} {tk : TA} {g : List Value → List Value → List Value} {gV : List V → List V → List V}
    (F : FnOk X.prog X.w X.K X.mg X.base CX k f fd ps sp) (hr : Room k X.A) (hg : Gl X x) (hm : X.mg x = some (.ref f)) (hk : PySem.W.keepIn X.K (.ref f) = true) (hb : KBn X.K fd ps 0 ks g gV) (hx : Passes CX X E)
    (hkw : PK X kws tk) (hall : (backToKw pos (keywordEach kws X.env)).all (·.1.isSome) = true := by rfl) (hks : (backToKw pos (keywordEach kws X.env)).filterMap (·.1) = ks := by rfl)
    (hdb : (x == ("__debug__" : Str)) = false := by decide) (hpl : ((backTo pos (starEach [] X.env)).any (·.1) || (backToKw pos (keywordEach kws X.env)).any (·.1.isNone)) = false := by rfl) :
    PE X (.Call (.Name x p) [] kws pos) (tCallN 0 ks.length sp gV E tNil tk) := by
  refine ⟨fun pins s σ H Q I h => ?_⟩
  refine wpAny_Call_Name_kw (ld_glob I hg hm ?_ hdb)
  refine PySem.W.callWith_KW0 (h₀ := X.base) I.ok.mod.kin hk hall ?_ hpl
  refine thn (hkw.run pos pins s σ H _ I h) fun ws s2 ⟨zs, H2, I2, rz, l1, l2, q2⟩ => ⟨I2.kIn, ?_⟩
  rw [hks]
  exact run_fnN (us := []) (vs := []) F hr hb hx I2 .nil rz rfl l2 q2
theorem Fun.kbn {x qual : Str} {st : Stmt} {f : Addr} {fd : FuncData} {ps : List Str} (F : Fun K x qual st f fd) (n : Nat) (ks : List Str) (g : List Value → List Value → List Value) (gV : List V → List V → List V)
    (hrel : ∀ {vs : List V} {us : List Value} {zs : List V} {ws : List Value}, Vals vs us → Vals zs ws → Vals (gV vs zs) (g us ws))
    (h : ∀ (kV doc pm : Value) (an : Option Addr) (cdv ct : Value) (us ws : List Value), us.length = n → ws.length = ks.length → bindArgs (PySem.W.fnOf x qual (defArgs st) (defBody st) (defScope st) .none kV doc pm an cdv ct) ⟨us, ks.zip ws⟩ = pure (ps.zip (g us ws))) : KBn K fd ps n ks g gV := by
  obtain ⟨oc, od, kV, doc, pm, an, cdv, ct, osl, rfl, lk, hcd⟩ := F.ex
  exact ⟨fun s us ws _ l1 l2 => BindsTo.of_eq (h kV doc pm an cdv ct us ws l1 l2), hrel⟩
theorem Vals.rev {xs : List V} {us : List Value} (r : Vals xs us) : Vals xs.reverse us.reverse := by
  induction r with
  | nil => exact .nil
  | cons h t ih =>
    rw [List.reverse_cons, List.reverse_cons]
    exact ih.append (.cons h .nil)
def spLaw (K : PySem.W.Frag) : Sp := fun vs H Q _ => ∃ (a : Addr) (ns : List Int), vs = [.ref a] ∧ SqL K H a (ns.map V.int) ∧ ns.length ≤ 63 ∧ ∀ H', Q (.bl true) H'
/-- a def of the text, what it keeps, how it is called -/
structure Df (P : Program) (w : World) (K : PySem.W.Frag) (mg : Str → Option Value) (base : Heap) (k : Nat) (f : Addr) (fd : FuncData) (x : Str) (ps : List Str) (sp : Sp) : Prop where
  ok : FnOk P w K mg base CX0 k f fd ps sp
  b : Binds K fd ps []
  kp : PySem.W.keepIn K (.ref f) = true
  m : mg x = some (.ref f)
abbrev letters : Str := "abcdefghijklmnopqrstuvwxyz"
def lowB (z : Str) : Bool := z.cps.toList.all fun c => decide (c ∈ letters.cps.toList)
/-- a comprehension over a text, sign by sign -/
theorem lc_str {z : Str} {g : TG} {te : TE} {vs : List Nat} {σ : L2.St} {H1 : Hp} {D : Addr} {Qd : Hp → Prop} (Pv : Nat → Hp → Prop) (h0 : Pv 0 (upd H1 D (.lst [])))
    (hs : ∀ (i : Nat) (c : Nat) (H : Hp), z.cps.toList[i]? = some c → Pv i H → g (.str ⟨#[c]⟩) (wipe σ vs) H fun σ2 H2 => wipe σ2 vs = wipe σ vs ∧ te σ2 H2 fun y H4 => ∃ acc, H4 D = some (.lst acc) ∧ acc.length < sizeLine ∧ Pv (i + 1) (upd H4 D (.lst (acc ++ [y])))) (hd : ∀ H, Pv z.cps.toList.length H → Qd H) :
    ∃ W : Nat → Nat → Hp → Prop, (∃ m, W 0 m (upd H1 D (.lst []))) ∧ ∀ i m H, W i m H →
      ((Its z).stop i H ∧ Qd H) ∨ ((Its z).go i H ∧ ∃ Nx : Hp → Prop, (∀ H', Nx H' → ∃ m', m' < m ∧ W (i + 1) m' H') ∧ ∀ x H', (Its z).yld i H x H' → g x (wipe σ vs) H' fun σ2 H2 => wipe σ2 vs = wipe σ vs ∧ tYes σ2 H2 fun b H3 =>
        if b = true then te σ2 H3 fun y H4 => ∃ acc, H4 D = some (.lst acc) ∧ acc.length < sizeLine ∧ Nx (upd H4 D (.lst (acc ++ [y]))) else Nx H3) := by
  have hsz : z.cps.size = z.cps.toList.length := (Array.length_toList).symm
  refine ⟨fun i m H => m = z.cps.toList.length - i ∧ i ≤ z.cps.toList.length ∧ Pv i H, ⟨z.cps.toList.length, rfl, Nat.zero_le _, h0⟩, ?_⟩
  rintro i m H ⟨rfl, hi, p⟩
  by_cases hlt : i < z.cps.toList.length
  · refine .inr ⟨(by show i < z.cps.size; omega), Pv (i + 1), fun H' p' => ⟨z.cps.toList.length - (i + 1), by omega, rfl, hlt, p'⟩, fun v H' y => ?_⟩
    obtain ⟨rfl, c, hc, rfl⟩ := y
    refine hs i c H' ?_ p
    rw [Array.getElem?_toList]
    exact hc
  · have e : i = z.cps.toList.length := by omega
    subst e
    exact .inl ⟨(by show z.cps.size ≤ _; omega), hd H p⟩
theorem kSq {z : Str} {i : Nat} {c : Nat} (f : Nat → Bool) (h : z.cps.toList[i]? = some c) : (z.cps.toList.take (i + 1)).map f = (z.cps.toList.take i).map f ++ [f c] := by
  rw [List.take_add_one, h, List.map_append]
  rfl
/-! ### names -/
abbrev sNames : Stmt := top 67
theorem tlen (z : Str) : z.length = (tl z).length := str_len z
theorem lowB_tl (z : Str) : lowB z = (tl z).all fun c => decide (c ∈ letters.cps.toList) := rfl
theorem lowB_of {z : Str} (h : ∀ c ∈ tl z, c ∈ letters.cps.toList) : lowB z = true := by
  rw [lowB_tl, List.all_eq_true]
  intro c hc
  exact decide_eq_true (h c hc)
theorem tl_cut (z : Str) (lo hi : Option Int) : tl (cutS z lo hi) = ((tl z).drop (HT.sIx z.length 0 lo)).take (HT.sIx z.length z.length hi - HT.sIx z.length 0 lo) := rfl
theorem tl_cut_to (z : Str) (k : Int) (h0 : 0 ≤ k) (h1 : k ≤ (z.length : Int)) : tl (cutS z none (some k)) = (tl z).take k.toNat := by
  obtain ⟨n, rfl⟩ : ∃ n : Nat, k = (n : Int) := ⟨k.toNat, by omega⟩
  rw [tl_cut, HT.sIx_none, HT.sIx_nat, List.drop_zero, Nat.sub_zero, Int.toNat_natCast, Nat.min_eq_left (by omega)]
theorem tl_cut_from (z : Str) (k : Int) (h0 : 0 ≤ k) (h1 : k ≤ (z.length : Int)) : tl (cutS z (some k) none) = (tl z).drop k.toNat := by
  obtain ⟨n, rfl⟩ : ∃ n : Nat, k = (n : Int) := ⟨k.toNat, by omega⟩
  rw [tl_cut, HT.sIx_none, HT.sIx_nat, Int.toNat_natCast, Nat.min_eq_left (by omega), List.take_of_length_le]
  rw [List.length_drop, tlen]
  exact Nat.le_refl _
theorem glue_signs : ∀ cs : List Nat, tl (Txt.join Str.empty (cs.map fun c => (⟨#[c]⟩ : Str))) = cs := by
  have h : ∀ cs : List Nat, joinL [] (cs.map fun c => [c]) = cs := by
    intro cs
    induction cs with
    | nil => rfl
    | cons x r ih =>
      cases r with
      | nil => rfl
      | cons y r => 
        show [x] ++ ([] ++ joinL [] ((y :: r).map fun c => [c])) = x :: y :: r
        rw [ih]
        rfl
  intro cs
  show tl (Builtin.Str.glued _ _) = _
  rw [StrLaws.glued_eq_join, tl_join, List.map_map]
  exact h cs
structure IsNm (z : Str) : Prop where
  low : ∀ c ∈ tl z, c ∈ letters.cps.toList
  l1 : 1 ≤ z.length
  l4 : z.length ≤ 4
def spNames : Sp := fun vs H Q _ => ∃ (b c : Addr) (many : Int), vs = [.ref b, .int many] ∧ Bag H b c ∧ 0 ≤ many ∧ many ≤ 26 ∧
  ∀ (l : Addr) (ws : List Str) (H' : Hp), (ws.length : Int) = many → (∀ z ∈ ws, IsNm z) → Bag H' b c → Kp b H H' → H l = none → H' l = some (.lst (ws.map V.str)) → Q (.ref l) H'
theorem Kp.new {b p : Addr} {H H' : Hp} (k : Kp b H H') (hp : H' p = none) (o : HO) : Kp b H (upd H' p o) := fun a u h n => by rw [upd_ne (ne_of_none (k a u h n) hp)]; exact k a u h n
theorem Kp.free {b c p : Addr} {H H' : Hp} (k : Kp b H H') (B : Bag H' b c) (hp : H' p = none) : H p = none := by
  have hb : p ≠ b := B.fresh hp
  cases e : H p with
  | none => rfl
  | some o =>
    rw [k p o e hb] at hp
    cases hp
theorem Bag.ne_new {H : Hp} {b c q : Addr} (B : Bag H b c) (h : H q = none) : b ≠ q ∧ c ≠ q := by
  obtain ⟨ns, p, r, s, k, B⟩ := B
  exact ⟨ne_of_none B.lb h, ne_of_none B.lc h⟩
theorem Bag.wr {H : Hp} {b c q : Addr} (B : Bag H b c) (n : b ≠ q ∧ c ≠ q) (o : HO) : Bag (upd H q o) b c := by
  obtain ⟨ns, p, r, s, k, B⟩ := B
  exact ⟨ns, p, r, s, k, by rw [upd_ne n.1]; exact B.lb, by rw [upd_ne n.2]; exact B.lc, B.nl, B.p0, B.s0, B.s1, B.r0⟩
theorem Kp.wr {b p : Addr} {H H' : Hp} (k : Kp b H H') (hp : H p = none) (o : HO) : Kp b H (upd H' p o) := fun a u h n => by rw [upd_ne (ne_of_none h hp)]; exact k a u h n
theorem scNames : FnScope ["_law_bag_here", "_law_many", "_law_letters", "_law_stem", "_law_at", "_law_first", "_law_k"] ["_law_bag_here", "_law_many"] (defScope sNames) := ⟨rfl, rfl, rfl, by decide +kernel, rfl, by decide +kernel, by decide +kernel⟩
theorem ok_names {f gp ga : Addr} {fd gpd gad : FuncData} (F : Fun K "_law_names" "_law_names" sNames f fd) (GP : FnOk P w K mg base CX0 1 gp gpd ["_law_bag_here", "_law_many"] spPull) (bP : Binds K gpd ["_law_bag_here", "_law_many"] []) (kP : PySem.W.keepIn K (.ref gp) = true) (mP : mg "_law_pull" = some (.ref gp))
    (GA : FnOk P w K mg base CX0 2 ga gad ["_law_bag_here", "_law_things"] (spAny K)) (bA : Binds K gad ["_law_bag_here", "_law_things"] []) (kA : PySem.W.keepIn K (.ref ga) = true) (mA : mg "_law_any" = some (.ref ga)) (mlen : mg "len" = none) (mint : mg "int" = none) (mrange : mg "range" = none) :
    FnOk P w K mg base CX0 3 f fd ["_law_bag_here", "_law_many"] spNames := by
  refine F.ok scNames (fun vs H Q E h => ?_) (fun cdv A outer s H vs Q E hr h => ?_)
  · obtain ⟨b, c, many, rfl, _⟩ := h
    rfl
  obtain ⟨b, c, many, rfl, B, m0, m1, q⟩ := h
  have hr1 : Room 1 _ := hr.mono (by decide)
  refine ⟨_, pss_cons (ps_set (i := 2) scNames.nd rfl (Or.inr rfl) pe_str)
    (pss_cons (ps_set (i := 3) scNames.nd rfl (Or.inr rfl) (pe_join pe_str (pe_lc (own := [("_law_k", 6)]) (g := gName 6) rfl scNames.nd (pi_range1 (by rfl) mrange (pa_cons (pe_call GP hr1 (by rfl) mP kP bP .nil pass0 (pa_cons (pv 0) (pa_cons pe_int pa_nil))) pa_nil))
        (blkOk_by (own := [("_law_k", 6)]) (N := ["_law_bag_here", "_law_many", "_law_letters", "_law_stem", "_law_at", "_law_first", "_law_k"]) (sc := defScope sNames) (by decide +kernel))
        (fun _ _ _ _ _ => pg_name (i := 6) scNames.nd rfl (Or.inl rfl) (Or.inr rfl)) (fun _ _ _ _ _ => pts_nil)
        (fun _ _ _ _ _ => pe_call GA hr (by rfl) mA kA bA .nil pass0 (pa_cons (pv 0) (pa_cons (pv 2) pa_nil))))))
    (pss_cons (ps_asg (pe_tup (pa_cons (pe_call GP hr1 (by rfl) mP kP bP .nil pass0 (pa_cons (pv 0) (pa_cons (pe_op op_add (pe_callB call_len (by rfl) mlen PySem.boot_len (pa_cons (pv 3) pa_nil)) pe_int) pa_nil))) (pa_cons (pe_call GP hr1 (by rfl) mP kP bP .nil pass0 (pa_cons (pv 0) (pa_cons pe_int pa_nil))) pa_nil)))
        (pg_tup (n := 2) rfl (pgs_cons (pg_name (i := 4) scNames.nd rfl (Or.inr rfl) (Or.inl rfl)) (pgs_cons (pg_name (i := 5) scNames.nd rfl (Or.inr rfl) (Or.inl rfl)) pgs_nil))))
    (pss_one (ps_ret (pe_lc (own := [("_law_k", 6)]) (g := gName 6) rfl scNames.nd (pi_range1 (by rfl) mrange (pa_cons (pv 1) pa_nil))
        (blkOk_by (own := [("_law_k", 6)]) (N := ["_law_bag_here", "_law_many", "_law_letters", "_law_stem", "_law_at", "_law_first", "_law_k"]) (sc := defScope sNames) (by decide +kernel))
        (fun _ _ _ _ _ => pg_name (i := 6) scNames.nd rfl (Or.inl rfl) (Or.inr rfl)) (fun _ _ _ _ _ => pts_nil)
        (fun _ _ _ _ _ => pe_op op_add_str (pe_op op_add_str (pe_slice sl_str (pv 3) po_none (po_some (pv 4)))
          (pe_ix ix_str (pv 2) (pe_op op_mod (pe_callTy call_int1 (by rfl) mint (by decide +kernel) (pa_cons (pe_op op_add (pv 5) (pe_op op_mul pe_int (pv 6))) pa_nil)) pe_int) (fun _ _ => rfl)))
          (pe_slice sl_str (pv 3) (po_some (pv 4)) po_none))))))), ?_⟩
  -- the stem: letters drawn
  refine ⟨⟨_, rfl⟩, .ref b, rfl, b, c, 4, rfl, B, by decide, by decide, fun d H1 d0 d1 B1 k1 => ?_⟩
  refine ⟨d, rfl, by omega, by omega, fun D hD => ?_⟩
  have nD := B1.ne_new hD
  have hD0 : H D = none := k1.free B1 hD
  refine lc_range (lo := 0) (n := d.toNat) (fun i H2 => Bag H2 b c ∧ Kp b H H2 ∧ ∃ cs : List Nat, cs.length = i ∧ (∀ x ∈ cs, x ∈ letters.cps.toList) ∧ H2 D = some (.lst (cs.map fun x => V.str ⟨#[x]⟩)))
    ⟨B1.upd_new hD _, k1.new hD _, [], rfl, fun x hx => (nomatch hx), upd_same⟩ (fun i H2 hi ⟨B2, k2, cs, hl, hcs, hcD⟩ => ?_) (fun H2 ⟨B2, k2, cs, hl, hcs, hcD⟩ => ?_)
  · refine ⟨rfl, .ref b, rfl, .str letters, rfl, b, c, _, _, rfl, B2, .inr (.inr ⟨letters, rfl, by decide +kernel, rfl⟩), by decide +kernel, by decide +kernel, fun y H3 hy B3 k3 => ?_⟩
    obtain ⟨x, hx, rfl⟩ := List.mem_map.mp hy
    refine ⟨_, k3 _ _ hcD nD.1.symm, ?_, B3.wr nD _, (k2.trans k3).wr hD0 _, cs ++ [x], by rw [List.length_append, hl]; rfl, fun z hz => ?_, ?_⟩
    · rw [List.length_map, hl]
      exact small1000 (by omega)
    · rcases List.mem_append.mp hz with h | h
      · exact hcs z h
      · rw [List.mem_singleton.mp h]
        exact hx
    · rw [upd_same, List.map_append]
      rfl
  · have ey : (cs.map fun x => V.str ⟨#[x]⟩) = ((cs.map fun x => (⟨#[x]⟩ : Str)).map V.str) := by rw [List.map_map]; rfl
    have hlen : cs.length ≤ 3 := by omega
    have hsum : ∀ l : List Nat, ((l.map fun x => (⟨#[x]⟩ : Str)).map (·.length)).sum = l.length := by
      intro l
      induction l with
      | nil => rfl
      | cons x r ih =>
        rw [List.map_cons, List.map_cons, List.sum_cons, ih, List.length_cons]
        show 1 + r.length = _
        omega
    refine ⟨Str.empty, D, cs.map fun x => ⟨#[x]⟩, rfl, rfl, .inl (SqL.of (by rw [hcD, ey])), ?_, ?_⟩
    · rw [hsum]
      show cs.length + _ * 0 ≤ _
      omega
    generalize hst : Txt.join Str.empty (cs.map fun x => (⟨#[x]⟩ : Str)) = st
    have est : tl st = cs := by rw [← hst, glue_signs]
    have lst : st.length = cs.length := by rw [tlen, est]
    -- at, first
    refine ⟨.ref b, rfl, .str st, rfl, .str st, _, rfl, ⟨Nat.le_of_lt (small1000 (by omega)), rfl⟩, _, _, rfl, rfl, b, c, _, rfl, B2, by omega, by omega, fun a1 H3 a0 a1' B3 k3 => ?_⟩
    refine ⟨.ref b, rfl, b, c, 26, rfl, B3, by decide, by decide, fun f1 H4 f0 f1' B4 k4 => ?_⟩
    refine ⟨(by show 2 ≤ sizeLine; decide), fun t ht => ?_⟩
    refine ⟨t, _, rfl, SqT.of upd_same, rfl, _, _, rfl, _, _, rfl, rfl, ?_⟩
    have k5 : Kp b H (upd H4 t (.tup [.int a1, .int f1])) := ((k2.trans k3).trans k4).new ht _
    have B5 : Bag (upd H4 t (.tup [.int a1, .int f1])) b c := B4.upd_new ht _
    -- the names
    refine ⟨_, rfl, many, rfl, by omega, by omega, fun L hL => ?_⟩
    have nL := B5.ne_new hL
    have hL0 : H L = none := k5.free B5 hL
    refine lc_range (lo := 0) (n := many.toNat) (fun i H6 => Bag H6 b c ∧ Kp b H H6 ∧ ∃ ws : List Str, ws.length = i ∧ (∀ z ∈ ws, IsNm z) ∧ H6 L = some (.lst (ws.map V.str)))
      ⟨B5.upd_new hL _, k5.new hL _, [], rfl, fun x hx => (nomatch hx), upd_same⟩ (fun i H6 hi ⟨B6, k6, ws, hl6, hws, hcL⟩ => ?_) (fun H6 ⟨B6, k6, ws, hl6, hws, hcL⟩ => ?_)
    · have hstl : st.length ≤ sizeLine := Nat.le_of_lt (small1000 (by omega))
      have ha0 : (0 : Int) ≤ a1 := a0
      have ha1 : a1 ≤ (st.length : Int) := by omega
      have hm0 : 0 ≤ (f1 + 7 * (0 + (i : Int))) % 26 := Int.emod_nonneg _ (by decide)
      have hm1 : (f1 + 7 * (0 + (i : Int))) % 26 < 26 := Int.emod_lt_of_pos _ (by decide)
      obtain ⟨x, hx⟩ : ∃ x, atI letters.cps.toList ((f1 + 7 * (0 + (i : Int))) % 26) = some x ∧ x ∈ letters.cps.toList := by
        have hlt : ((f1 + 7 * (0 + (i : Int))) % 26).toNat < letters.cps.toList.length := by
          rw [show letters.cps.toList.length = 26 by decide +kernel]
          omega
        have e : atI letters.cps.toList ((((f1 + 7 * (0 + (i : Int))) % 26).toNat : Nat) : Int) = some letters.cps.toList[((f1 + 7 * (0 + (i : Int))) % 26).toNat] := atI_nat (by rw [List.getElem?_eq_getElem hlt])
        rw [Int.toNat_of_nonneg hm0] at e
        exact ⟨_, e, List.getElem_mem hlt⟩
      refine ⟨rfl, .str st, rfl, .int a1, rfl, a1, rfl, st, rfl, hstl, ?_⟩
      refine ⟨.str letters, rfl, .int f1, rfl, .int (0 + (i : Int)), rfl, 7, _, rfl, rfl, .inl ⟨by decide, by decide⟩, _, _, rfl, rfl, .inl ⟨_, rfl, _, 26, rfl, rfl, (by show (0 : Int) < 26; decide), ?_⟩⟩
      refine ⟨letters, _, x, rfl, rfl, by decide +kernel, hx.1, ?_⟩
      have hc1 := cutS_length st none (some a1)
      have hc2 := cutS_length st (some a1) none
      have h1000 : (1000 : Nat) ≤ sizeLine := by decide
      have hx1 : (⟨#[x]⟩ : Str).length = 1 := rfl
      refine ⟨_, _, rfl, rfl, by rw [hx1]; omega, ?_⟩
      refine ⟨.str st, rfl, .int a1, rfl, a1, rfl, st, rfl, hstl, ?_⟩
      have hl1 : (cutS st none (some a1) ++ (⟨#[x]⟩ : Str)).length = (cutS st none (some a1)).length + 1 := by rw [Str.length_append, hx1]
      refine ⟨_, _, rfl, rfl, by rw [hl1]; omega, ?_⟩
      have hnm : IsNm (cutS st none (some a1) ++ (⟨#[x]⟩ : Str) ++ cutS st (some a1) none) := by
        have e : tl (cutS st none (some a1) ++ (⟨#[x]⟩ : Str) ++ cutS st (some a1) none) = cs.take a1.toNat ++ [x] ++ cs.drop a1.toNat := by
          rw [tl_append, tl_append, tl_cut_to st a1 ha0 ha1, tl_cut_from st a1 ha0 ha1, est]
        have el : (cutS st none (some a1) ++ (⟨#[x]⟩ : Str) ++ cutS st (some a1) none).length = cs.length + 1 := by
          rw [tlen, e, List.length_append, List.length_append, List.length_take, List.length_drop]
          show min a1.toNat cs.length + 1 + (cs.length - a1.toNat) = cs.length + 1
          omega
        refine ⟨fun y hy => ?_, by omega, by omega⟩
        rw [e] at hy
        rcases List.mem_append.mp hy with hy | hy
        · rcases List.mem_append.mp hy with hy | hy
          · exact hcs y (List.mem_of_mem_take hy)
          · rw [List.mem_singleton.mp hy]
            exact hx.2
        · exact hcs y (List.mem_of_mem_drop hy)
      refine ⟨_, hcL, ?_, B6.wr nL _, k6.wr hL0 _, ws ++ [cutS st none (some a1) ++ (⟨#[x]⟩ : Str) ++ cutS st (some a1) none], by rw [List.length_append, hl6]; rfl, fun z hz => ?_, ?_⟩
      · rw [List.length_map, hl6]
        exact small1000 (by omega)
      · rcases List.mem_append.mp hz with h | h
        · exact hws z h
        · rw [List.mem_singleton.mp h]
          exact hnm
      · rw [upd_same, List.map_append]
        rfl
    · exact q L ws H6 (by omega) hws B6 k6 hL0 hcL
/-! ### a target whose last name has a star -/
section
open PySem.Spec PyProof.Rows
variable {prog : Program} {w : World} {A : Around} {E : Value → Shared → Prop} {s : Shared}
/-- a walk that begins further on -/
theorem walks_from {I : Addr} {fp wr : List Addr} {G : Array GenState → Array GenState → Prop} {n : Nat} {P : Nat → Value → Prop} {St : Nat → Shared → Prop} (k : Nat) (W : WalksS prog w A I fp wr G (n + k) P St) :
    WalksS prog w A I fp wr G n (fun i => P (i + k)) (fun i => St (i + k)) where
  sub := W.sub
  grefl := W.grefl
  gtrans := W.gtrans
  frame := fun i => W.frame (i + k)
  item := fun i s Q E hi st hQ => W.item (i + k) s Q E (by omega) st fun v s' p st' => hQ v s' p (by rw [show i + 1 + k = i + k + 1 by omega]; exact st')
  done := fun s Q E st hQ => W.done s Q E st hQ
  self := fun i => W.self (i + k)
theorem itemsOf_list {items acc : Array Value} {k n : Nat} (hn : n + k = items.size) (h : ItemsOf (fun i v => items[i + k]? = some v) acc n) : acc.toList = items.toList.drop k := by
  obtain ⟨h1, h2⟩ := h
  refine List.ext_getElem? fun j => ?_
  rw [List.getElem?_drop, Array.getElem?_toList, Array.getElem?_toList]
  cases e : acc[j]? with
  | some v =>
    rw [Nat.add_comm k j]
    exact (h2 j v e).symm
  | none =>
    have hj : acc.size ≤ j := Array.getElem?_eq_none_iff.mp e
    exact (Array.getElem?_eq_none_iff.mpr (by omega)).symm
theorem unpack_star {t : Addr} {items : Array Value} {i : Nat} {Q : List Value → Shared → Prop} (hh : A.handled = none) (ht : IsTup s.heap t items) (hi : i ≤ items.size) (hsz : items.size ≤ sizeLine)
    (hQ : ∀ (h' : Heap) (tk : Nat) (D : Addr), (∀ b o, s.heap.get? b = some o → h'.get? b = some o) → s.heap.get? D = none → h'.get? D = some { cls := .type "list", data := .seq (items.toList.drop i).toArray } → Q (items.toList.take i ++ [.ref D]) { s with heap := h', toks := tk }) :
    wpAny (model prog w) A (unpackItems (.ref t) (i + 1) (some i)) Q E s := by
  have hlt : t ≠ s.heap.objs.size := by obtain ⟨o, ho, _⟩ := ht; exact Nat.ne_of_lt (Heap.lt_size ho)
  obtain ⟨n, hn⟩ : ∃ n, n + i = items.size := ⟨items.size - i, by omega⟩
  unfold unpackItems
  refine wpAny_bind ?_
  unfold notIterableAtAll
  refine wpAny_bind (wpAny_specialOf ht.typeIs slot_tuple_iter.lookup ?_)
  refine wpAny_pure ?_
  simp only [Bool.false_eq_true, if_false]
  refine wpAny_bind (wpAny_holding (iter_tuple ht ?_))
  refine wpAny_bind (wpAny_holding (draw_tuple hlt i 0 _ _ ⟨_, Heap.get?_push_size _ rfl, rfl, rfl⟩ (ht.push _) (by omega) fun h₁ hit₁ hs₁ => ?_))
  rw [List.drop_zero]
  have hl1 : (items.toList.take i).length = i := by rw [List.length_take, Array.length_toList]; omega
  rw [if_neg (by rw [hl1]; omega)]
  have ht₁ : IsTup h₁ t items := (ht.push _).extBut hs₁.extBut hlt
  have hsi : s.heap.objs.size < h₁.objs.size := by
    obtain ⟨o, ho, _⟩ := hit₁
    exact Heap.lt_size ho
  have W0 := (Walks.tuple (prog := prog) (w := w) (A := A.in1) hh s.heap.objs.size t hlt items).toS
  rw [← hn] at W0
  have W1 := walks_from i W0
  have hit2 : h₁.IsTupleIter s.heap.objs.size t (0 + i) := by
    have e : (0 : Nat) + i = i := by omega
    rw [e] at hit₁ ⊢
    exact hit₁
  have ht2 : h₁.IsTuple t items := ht₁
  refine wpAny_bind (wpAny_holding (wpAny_collect_iter (.inr (.inr (.inr rfl))) W1 (fun _ _ st => let ⟨o, ho, hc, _⟩ := st.1; ⟨o, ho, hc⟩) ⟨hit2, ht2⟩ (fun b hb => ?_) (List.mem_cons_self ..) (fun s' acc hm hacc => ?_) (by omega)))
  · rcases List.mem_cons.mp hb with e | hb
    · rw [e]; exact hsi
    · rw [List.mem_singleton.mp hb]
      obtain ⟨o, ho, _⟩ := ht2
      exact Heap.lt_size ho
  · have ea : acc.toList = items.toList.drop i := itemsOf_list hn hacc
    rw [ea]
    have e0 : i + 1 - 1 - i = 0 := by omega
    rw [e0]
    show wpAny _ _ (if (List.drop i items.toList).length < 0 then _ else _) _ _ _
    rw [if_neg (Nat.not_lt_zero _)]
    have e1 : (List.drop i items.toList).length - 0 = (List.drop i items.toList).length := Nat.sub_zero _
    have e2 : List.take ((List.drop i items.toList).length - 0) (List.drop i items.toList) = List.drop i items.toList := by rw [e1, List.take_length]
    have e3 : List.drop ((List.drop i items.toList).length - 0) (List.drop i items.toList) = [] := by rw [e1, List.drop_length]
    rw [e2, e3]
    have hlen : (List.drop i items.toList).length ≤ sizeLine := by rw [List.length_drop, Array.length_toList]; omega
    refine wpAny_bind (wpAny_newObj_type ?_ ?_)
    · refine wpAny_pure ?_
      rw [List.append_nil, Moved.eq_with hm]
      have k0 : ∀ b o, s.heap.get? b = some o → s'.heap.get? b = some o := fun b o e => by
        have nb : b ≠ s.heap.objs.size := Nat.ne_of_lt (Heap.lt_size e)
        exact hm.heap b o (fun hb => nb (List.mem_singleton.mp hb)) (hs₁.extBut b o nb (Heap.get?_push_of_some _ e))
      refine hQ (s'.heap.push _) s'.toks s'.heap.objs.size (fun b o e => Heap.get?_push_of_some _ (k0 b o e)) ?_ (Heap.get?_push_size _ rfl)
      cases e : s.heap.get? s'.heap.objs.size with
      | none => rfl
      | some o => exact absurd (Heap.lt_size (k0 _ o e)) (Nat.lt_irrefl _)
    · show (List.drop i items.toList).toArray.size ≤ sizeLine
      rw [List.size_toArray]
      exact hlen
end
section
open PySem.Spec PyProof.Rows
variable {X : Cx}
/-- the last of several targets, with a star -/
theorem pgs_star {e : Expr} {p : Pos} {g : TG} (h1 : PG X e g) : PGs X [.Starred e p] (gCons g gNil) := by
  refine ⟨fun pins s σ H vs us Q I r h => ?_⟩
  obtain ⟨v, vr, e1, h⟩ := h
  subst e1
  cases r with
  | cons r rr =>
    show wpAny _ _ (assignInOrder [assign e X.env] _) _ _ _
    refine assignInOrder_cons (thn (h1.run pins s σ H _ _ _ I r h) fun _ s1 ⟨σ1, H1, I1, q1⟩ => ?_)
    obtain ⟨rfl, q1⟩ := q1
    cases rr
    exact assignInOrder_nil ⟨σ1, H1, I1, q1⟩
/-- a, b, *c = a tuple: n names ahead of the star -/
def gStar (K : PySem.W.Frag) (n : Nat) (t : TGs) : TG := fun v σ H Q => ∃ a xs, v = .ref a ∧ SqT K H a xs ∧ n ≤ xs.length ∧ ∀ p, H p = none → t (xs.take n ++ [.ref p]) σ (upd H p (.lst (xs.drop n))) Q
theorem pg_star {es : List Expr} {k : Nat} {pos : Pos} {t : TGs} {n : Nat} (hc : X.calm = true) (h : PGs X es t)
    (hn : (assignEach es X.env).length = n + 1 := by rfl) (hst : (assignEach es X.env).findIdx? (·.1) = some n := by rfl) : PG X (.Tuple es k pos) (gStar X.K n t) := by
  refine ⟨fun pins s σ H v u Q I r hw => ?_⟩
  obtain ⟨a, xs, e1, hq, hl, hw⟩ := hw
  subst e1
  cases r
  obtain ⟨its, rv, ht, hz⟩ := I.tuple hq
  have hlen := rv.length
  rw [PyProof.Rows.assign_Tuple]
  refine wpAny_bind (wpAny_standAt ?_)
  unfold unpack
  rw [hn, hst]
  refine wpAny_bind (wpAny_holding (unpack_star (I.ok.hd hc) ht (by rw [List.size_toArray]; omega) (by rw [List.size_toArray]; omega) fun h' tk D k0 hD hL => ?_))
  have hn0 : H D = none := I.hok.gone hD
  have e2 : its.toArray.toList = its := List.toList_toArray ..
  rw [e2] at hL ⊢
  have r2 : Vals (xs.drop n) (its.drop n) := rv.drop n
  have I1 : Inv X pins σ (upd H D (.lst (xs.drop n))) { s with heap := h', toks := tk } := I.laidN k0 hD hn0 ⟨by rw [List.length_drop]; omega, its.drop n, _, r2, hL⟩
  exact h.run pins _ σ _ (xs.take n ++ [.ref D]) _ Q I1 ((rv.take n).append (show Vals [V.ref D] [Value.ref D] from .cons (show RelV (V.ref D) (Value.ref D) from rfl) .nil)) (hw D hn0)
end
/-! ### enumerate of a tuple -/
section
open PySem.Spec PyProof.Rows
theorem meets_enum1 {v : Value} {o : Obj} {Hs : Heap → Prop} (Bg : Begins v o Hs) :
    Meets (Builtin.«enumerate.__new__» ⟨[.type "enumerate", v], []⟩) (fun _ R s => Hs s.heap ∧
      R (.ok (.ret (.ref (s.heap.push o).objs.size))) { s with heap := (s.heap.push o).push { cls := .type "enumerate", data := .fields #[.none, .bool false, .ref s.heap.objs.size, rawInt 0, .none, .none] } }) :=
  .of_wp fun prog w A R s h => by
    obtain ⟨hp, g, d, tk, os⟩ := s
    obtain ⟨h1, h⟩ := h
    have hsub := sub_enumerate
    have start : ∀ {A' : Around} {E : Value → Shared → Prop} {Q : Value → Shared → Prop}, Q (.ref hp.objs.size) ⟨hp.push o, g, d, tk, os⟩ → wpAny (model prog w) A' (pyIter v) Q E ⟨hp, g, d, tk, os⟩ :=
      fun q => Bg.iter prog w _ _ ⟨hp, g, d, tk, os⟩ _ h1 q
    wp_walk using start
    refine wpAny_stack_any fun st => wpAny_pure ?_
    split
    · rename_i c _ _ _ _ _
      cases (c == Value.type "enumerate") <;> (wp_walk using start; exact ⟨_, rfl, h⟩)
    · wp_walk using start
      exact ⟨_, rfl, h⟩
variable {prog : Program} {w : World} {A : Around} {E : Value → Shared → Prop} {s : Shared}
theorem call_enumT {t : Addr} {items : Array Value} {Q : Value → Shared → Prop} (ht : s.heap.IsTuple t items)
    (h : ∀ h', IsEnum h' (s.heap.objs.size + 1) s.heap.objs.size 0 .none → h'.IsTupleIter s.heap.objs.size t 0 →
      (∀ b o, s.heap.get? b = some o → h'.get? b = some o) → Q (.ref (s.heap.objs.size + 1)) { s with heap := h' }) : wpAny (model prog w) A (call (.type "enumerate") [.ref t]) Q E s := by
  refine callType_new F.called_enumerate (by decide) (F.typeCall_enumerate_1 _) (F.newCall_enumerate_1 _) (fun obj => F.args_object_init_2 obj _) F.entry_enumerate_new
    (meets_enum1 (begins_tuple t items)) ⟨ht, ?_⟩
  generalize ho : ({ cls := .type "tuple_iterator", data := .fields #[.ref t, .int 0 0] } : Obj) = oi
  have hf : oi.isFreed = false := by rw [← ho]; rfl
  have hz : (s.heap.push oi).objs.size = s.heap.objs.size + 1 := Heap.size_push ..
  show _ ∧ _
  rw [hz]
  have hit := Heap.get?_push_size s.heap (o := oi) hf
  have he := Heap.get?_push_size (s.heap.push oi) (o := { cls := .type "enumerate", data := .fields #[.none, .bool false, .ref s.heap.objs.size, rawInt 0, .none, .none] }) rfl
  rw [hz] at he
  exact ⟨⟨_, he, rfl⟩, h _ he ⟨_, Heap.get?_push_of_some _ hit, by rw [← ho], by rw [← ho]; rfl⟩ fun b o x => Heap.get?_push_of_some _ (Heap.get?_push_of_some _ x)⟩
end
/-- the tuple at a, each item in a new pair with its number -/
def IteT (K : PySem.W.Frag) (a : Addr) : It where
  go := fun i H => ∃ (xs : List V) (x : V), SqT K H a xs ∧ xs[i]? = some x
  yld := fun i H v H' => ∃ T x, v = .ref T ∧ H T = none ∧ H' = upd H T (.tup [.int (i : Nat), x]) ∧ ∀ xs, SqT K H a xs → xs[i]? = some x
  stop := fun i H => ∃ xs : List V, SqT K H a xs ∧ xs.length ≤ i
open PySem.Spec PyProof.Rows in
theorem turn_enumT {P : Program} {w : World} {K : PySem.W.Frag} {elts : List Expr} {kk : Nat} {tpos : Pos} (a e it : Addr) :
    Turn P w K (.Tuple elts kk tpos) (IteT K a) [e, it] e (fun i h => (∃ old, IsEnum h e it ((i : Nat) : Int) old) ∧ h.IsTupleIter it a i ∧ e ≠ it ∧ a ≠ it ∧ a ≠ e) where
  mem := List.mem_cons_self ..
  obj := fun i h st b hb => by
    obtain ⟨⟨old, he⟩, ⟨o, ho, hc, hd⟩, _⟩ := st
    rcases List.mem_cons.mp hb with z | hb
    · subst z
      refine ⟨_, he, fun v q => ?_⟩
      cases q
    · exact ⟨o, by rw [List.mem_singleton.mp hb]; exact ho, fun v q => by rw [hd] at q; cases q⟩
  keep := fun i h h' st k => by
    obtain ⟨⟨old, he⟩, hi, hne⟩ := st
    exact ⟨⟨old, k e (List.mem_cons_self ..) _ he⟩, hi.at fun o q => k it (List.mem_cons_of_mem _ (List.mem_singleton.mpr rfl)) o q, hne⟩
  item := by
    intro X hP hw hK hc i pins s σ H E I hf st hg
    subst hP hw hK
    obtain ⟨⟨old, he⟩, hit, hne, nai, nae⟩ := st
    obtain ⟨xs, x, hq, hx⟩ := hg
    obtain ⟨its, rv, ht, hz⟩ := I.tuple hq
    obtain ⟨u, hu, ru⟩ := rv.get hx
    have hil : i < its.toArray.size := by
      rw [List.size_toArray]
      exact (List.getElem?_eq_some_iff.mp hu).1
    have hel : e < s.heap.objs.size := Heap.lt_size he
    have hitl : it < s.heap.objs.size := by
      obtain ⟨_, q, _⟩ := hit
      exact Heap.lt_size q
    have D := Draws.tuple (prog := X.prog) (w := X.w) (A := X.A.in1) (I.ok.hd hc) it a nai its.toArray
    refine wpAny_pyNext_enum_itemD D he ⟨hit, ht⟩ hil hne (fun hm => ?_) fun v h' tk hv ho st' hT hsz hk => ?_
    · rcases List.mem_cons.mp hm with z | hm
      · exact hne z
      · exact nae (List.mem_singleton.mp hm).symm
    have ev : v = u := by
      have q : its.toArray[i]? = some u := by simpa using hu
      rw [hv] at q
      exact Option.some.inj q
    subst ev
    refine ⟨_, rfl, wpAny_letOwnedTupleGo_enum (s := { s with heap := h', toks := tk + 1 }) ho fun h2 he2 sb => ?_⟩
    have back : ∀ b o, b ≠ e → h'.get? b = some o → h2.get? b = some o := fun b o nb q => (sb.2 b nb).trans q
    have new : ObjOk X.prog X.w (upd H s.heap.objs.size (.tup [.int (i : Nat), x])) h2 s.heap.objs.size (.tup [.int (i : Nat), x]) :=
      ⟨(by show 2 ≤ sizeLine; decide), [.int i tk, v], .cons ⟨_, rfl⟩ (.cons ru .nil), ⟨_, back _ _ (Nat.ne_of_gt hel) hT, rfl, _, rfl⟩⟩
    have keepO : ∀ b ob, b ∉ [e, it] → s.heap.get? b = some ob → h2.get? b = some ob := fun b ob hb q => by
      have n1 : b ≠ e := fun z => hb (by simp [z])
      have n2 : b ≠ it := fun z => hb (by simp [z])
      exact back b ob n1 (hk b ob n1 n2 q)
    have I1 : Inv X pins σ (upd H s.heap.objs.size (.tup [.int (i : Nat), x])) { s with heap := h2, toks := tk + 1 } := I.turnedNew (ch := [e, it]) keepO hf (Nat.le_refl _) new
    refine ⟨.ref s.heap.objs.size, _, I1, rfl, ⟨_, x, rfl, I.hok.fresh (Nat.le_refl _), rfl, fun ys hy => by rw [I.tuple_inj hy hq]; exact hx⟩, ⟨⟨v, ?_⟩, st'.1.at fun o q => back it o hne.symm q, hne, nai, nae⟩, fun b hb => ?_⟩
    · have e1 : ((i + 1 : Nat) : Int) = (i : Int) + 1 := by omega
      rw [e1]
      exact he2
    · have hb' : b < s.heap.objs.size := by
        rcases List.mem_cons.mp hb with z | hb
        · rw [z]; exact hel
        · rw [List.mem_singleton.mp hb]; exact hitl
      rw [upd_ne (Nat.ne_of_lt hb')]
      exact (hf b hb).1
  done := by
    intro X hP hw hK hc i pins s σ H E I hf st hg
    subst hP hw hK
    obtain ⟨⟨old, he⟩, hit, hne, nai, nae⟩ := st
    obtain ⟨xs, hq, hx⟩ := hg
    obtain ⟨its, rv, ht, hz⟩ := I.tuple hq
    obtain ⟨f0, f1, f2, f3, f4, f5⟩ := hf it (List.mem_cons_of_mem _ (List.mem_singleton.mpr rfl))
    have hend : its.toArray[i]? = none := Array.getElem?_eq_none_iff.mpr (by rw [List.size_toArray, ← rv.length]; exact hx)
    have D : Draws X.prog X.w X.A.in1 it [it, a] 0 (fun _ _ => False) (fun _ h => h.IsTupleIter it a i ∧ h.IsTuple a its.toArray) := {
      live := fun _ _ st => let ⟨o, ho, _⟩ := st.1; ⟨o, ho⟩
      frame := fun _ _ _ st hk => ⟨st.1.at fun o q => hk it (List.mem_cons_self ..) o q, st.2.at fun o q => hk a (List.mem_cons_of_mem _ (List.mem_singleton.mpr rfl)) o q⟩
      item := fun _ _ _ _ hi => absurd hi (Nat.not_lt_zero _)
      done := fun s2 Q2 E2 st hE => wpAny_nextOf_tuple_end (I.ok.hd hc) st.1 st.2 hend hE }
    exact wpAny_pyNext_enum_endD D he ⟨hit, ht⟩ fun h' eb => ⟨rfl, I.turned (t' := s.toks) (fun b o hb q => eb b o hb q) f0 f1 f3 f4 f5⟩
  self := fun A i s Q E st h => wpAny_pyIter_enum st.1.choose_spec h
def iEnumT (K : PySem.W.Frag) (ta : TA) : TI := fun σ H R => ta σ H fun vs H1 => ∃ a xs, vs = [.ref a] ∧ SqT K H1 a xs ∧ R (IteT K a) H1
open PySem.Spec PyProof.Rows in
theorem pi_enumT {X : Cx} {e : Expr} {ta : TA} {p pos tpos : Pos} {elts : List Expr} {kk : Nat} (hg : Gl X "enumerate") (hm : X.mg "enumerate" = none) (ha : PA X [e] ta) (hs : starEach [e] X.env = [(false, eval e X.env)] := by rfl) :
    PI X (.Tuple elts kk tpos) (.Call (.Name "enumerate" p) [e] [] pos) (iEnumT X.K ta) := by
  refine ⟨fun pins s σ H R I h => ?_⟩
  refine Call_ (ld_blt I hg hm boot_enumerate (PyProof.Rows.callWith_type1 (thn (ha.run pos pins s σ H _ I h) fun us s1 ⟨vs, H1, I1, r1, a, xs, ex, hq, q⟩ => ?_) hs rfl))
  subst ex
  obtain ⟨u, rfl, ru⟩ := vals1 r1
  cases ru
  obtain ⟨its, rv, ht, hz⟩ := I1.tuple hq
  have hal : a < s1.heap.objs.size := by
    obtain ⟨o, ho, _⟩ := id ht
    exact Heap.lt_size ho
  refine call_enumT (show s1.heap.IsTuple a its.toArray from ht) fun h' he hit hk => wpAny_pyIter_enum he ?_
  have I2 : Inv X pins σ H1 { s1 with heap := h' } := I1.kept (t' := s1.toks) hk
  refine ⟨s1.heap.objs.size + 1, [s1.heap.objs.size + 1, s1.heap.objs.size], _, _, H1, rfl, I2, turn_enumT a (s1.heap.objs.size + 1) s1.heap.objs.size, ⟨⟨.none, he⟩, hit, Nat.succ_ne_self _, Nat.ne_of_lt hal, Nat.ne_of_lt (Nat.lt_succ_of_lt hal)⟩, fun b hb => ?_, q⟩
  have hle : s1.heap.objs.size ≤ b := by
    rcases List.mem_cons.mp hb with z | hb
    · rw [z]; exact Nat.le_succ _
    · rw [List.mem_singleton.mp hb]; exact Nat.le_refl _
  exact I1.fpOk hle (I1.hok.fresh hle)
/-- a loop over enumerate of a tuple -/
theorem for_enumT {K : PySem.W.Frag} {a : Addr} {xs : List V} {g : TG} {tb : TS} {D : Ends} {σ : L2.St} {H : Hp} (Pv : Nat → L2.St → Hp → Prop) (h0 : Pv 0 σ H) (hq : ∀ i σ H, Pv i σ H → SqT K H a xs)
    (hs : ∀ (i : Nat) (x : V) (T : Addr) (σ : L2.St) (H : Hp), xs[i]? = some x → Pv i σ H → H T = none → g (.ref T) σ (upd H T (.tup [.int (i : Nat), x])) fun σ2 H2 => tb { D with nx := Pv (i + 1), ct := Pv (i + 1), bk := D.nx } σ2 H2) (hd : ∀ σ H, Pv xs.length σ H → D.nx σ H) :
    ∃ W : Nat → Nat → L2.St → Hp → Prop, (∃ m, W 0 m σ H) ∧ ∀ i m σ H, W i m σ H →
      ((IteT K a).stop i H ∧ D.nx σ H) ∨ ((IteT K a).go i H ∧ ∃ N : L2.St → Hp → Prop, (∀ σ' H', N σ' H' → ∃ m', m' < m ∧ W (i + 1) m' σ' H') ∧ ∀ v H', (IteT K a).yld i H v H' → g v σ H' fun σ2 H2 => tb { D with nx := N, ct := N, bk := D.nx } σ2 H2) := by
  refine ⟨fun i m σ H => m + i = xs.length ∧ Pv i σ H, ⟨xs.length, rfl, h0⟩, ?_⟩
  rintro i m σ H ⟨hm, p⟩
  have qx := hq i σ H p
  by_cases hlt : i < xs.length
  · refine .inr ⟨⟨xs, _, qx, List.getElem?_eq_getElem hlt⟩, Pv (i + 1), fun σ' H' p' => ⟨m - 1, by omega, by omega, p'⟩, ?_⟩
    rintro v H' ⟨T, x, rfl, hT, rfl, f⟩
    exact hs i x T σ H (f xs qx) p hT
  · have e : i = xs.length := by omega
    subst e
    exact .inl ⟨⟨xs, qx, Nat.le_refl _⟩, hd σ H p⟩
abbrev sIsName : Stmt := top 18
abbrev sIsInteger : Stmt := top 19
abbrev sIsNumber : Stmt := top 20
def nameB (z : Str) : Bool := decide ((1 : Int) ≤ (z.length : Int)) && decide ((z.length : Int) ≤ 4) && lowB z
def spName (K : PySem.W.Frag) : Sp := fun vs H Q _ => ∃ x : V, vs = [x] ∧ ((∃ z : Str, x = .str z ∧ z.length ≤ 1000 ∧ ∀ H', Same H H' → Q (.bl (nameB z)) H') ∨
  (∃ t : String, TyX K H x (.type t) ∧ kitB t "str" = some false ∧ ∀ H', Same H H' → Q (.bl false) H'))
structure NameTxt (mg : Str → Option Value) : Prop where
  isi : mg "isinstance" = none
  str : mg "str" = none
  int : mg "int" = none
  bool : mg "bool" = none
  len : mg "len" = none
  all : mg "all" = none
  low : ∃ t, mg "LETTERS" = some (.str letters t)
  most : ∃ t, mg "LONGEST_NAME" = some (.int 4 t)
theorem scName : FnScope ["value", "letter"] ["value"] (defScope sIsName) := ⟨rfl, rfl, rfl, by decide +kernel, rfl, by decide +kernel, by decide +kernel⟩
theorem ok_isname {f : Addr} {fd : FuncData} (F : Fun K "is_name" "is_name" sIsName f fd) (T : NameTxt mg) : FnOk P w K mg base CX0 1 f fd ["value"] (spName K) := by
  refine F.ok scName (fun vs H Q E h => ?_) (fun cdv A outer s H vs Q E hr h => ?_)
  · obtain ⟨x, rfl, _⟩ := h
    rfl
  obtain ⟨x, rfl, h⟩ := h
  obtain ⟨tl, mlow⟩ := T.low
  obtain ⟨tm, mmost⟩ := T.most
  refine ⟨_, pss_cons (ps_if (PW.pt (pw_or (pt_not (pt_val (pe_callB call_isi (by rfl) T.isi (by decide +kernel) (pa_cons (pv 0) (pa_cons (pe_bltn (v := .ty "str") (by rfl) T.str (by decide +kernel) rfl) pa_nil)))))
        (pw_or1 (pt_not (pt_chain op_le op_le pe_int (pe_callB call_len (by rfl) T.len PySem.boot_len (pa_cons (pv 0) pa_nil)) (pe_glob (v := .int 4) (by rfl) mmost ⟨_, rfl⟩))))))
      (pss_one (ps_ret pe_bl)) pss_nil)
    (pss_one (ps_ret (pe_callB (cr_all rfl) (by rfl) T.all (by decide +kernel) (pa_cons
      (pe_lc (own := [("letter", 1)]) (g := gName 1) rfl scName.nd (pi_str (pv 0)) (blkOk_by (own := [("letter", 1)]) (N := ["value", "letter"]) (sc := defScope sIsName) (by decide +kernel))
        (fun _ _ _ _ _ => pg_name (i := 1) scName.nd rfl (Or.inl rfl) (Or.inr rfl)) (fun _ _ _ _ _ => pts_nil)
        (fun _ _ _ _ _ => pe_cmpR op_in_sign (pv 1) (pe_glob (v := .str letters) (by rfl) mlow ⟨_, rfl⟩) rfl)) pa_nil)))), ?_⟩
  rcases h with ⟨z, rfl, hz, q⟩ | ⟨t, ty, hk, q⟩
  · have hzl : z.length ≤ sizeLine := Nat.le_of_lt (small1000 hz)
    refine ⟨_, rfl, _, _, _, _, true, rfl, .ty _, .base (.str z), kit_ty (by decide +kernel), _, rfl, ?_⟩
    refine iteF ?_
    refine ⟨_, rfl, _, z.length, rfl, ⟨hzl, rfl⟩, 1, _, rfl, rfl, _, rfl, ?_⟩
    refine ite2 (fun h1 => ?_) (fun h1 => ?_)
    · refine ⟨_, 4, rfl, rfl, _, rfl, ?_⟩
      cases h2 : decide ((z.length : Int) ≤ 4) with
      | false =>
        refine iteT ?_
        have e : nameB z = false := by unfold nameB; rw [h2, Bool.and_false, Bool.false_and]
        rw [← e]
        exact q _ (Same.refl H)
      | true =>
        refine iteF ?_
        refine ⟨_, rfl, z, rfl, fun D hD => ?_⟩
        have s1 := same_upd hD (.lst [])
        refine lc_str (fun i H2 => Same H H2 ∧ H2 D = some (.lst (((z.cps.toList.take i).map fun c => decide (c ∈ letters.cps.toList)).map V.bl))) ⟨s1, upd_same⟩ (fun i c H2 hc ⟨s2, hD2⟩ => ?_) (fun H2 ⟨s2, hD2⟩ => ?_)
        · refine ⟨rfl, _, rfl, c, letters, rfl, rfl, _, hD2, ?_, fun a o e => ?_, ?_⟩
          · rw [List.length_map, List.length_map, List.length_take]
            have : z.cps.toList.length = z.length := (str_len z).symm
            exact Nat.lt_of_le_of_lt (Nat.min_le_right _ _) (by rw [this]; exact small1000 hz)
          · rw [upd_ne (ne_of_none e hD)]
            exact s2 _ _ e
          · rw [upd_same, kSq _ hc, List.map_append]
            rfl
        · rw [List.take_length] at hD2
          refine ⟨D, _, rfl, SqL.of hD2, ?_⟩
          have e : nameB z = ((z.cps.toList.map fun c => decide (c ∈ letters.cps.toList)).all id) := by
            have h1' : decide ((1 : Int) ≤ (z.length : Int)) = true := h1
            unfold nameB lowB
            rw [h2, h1', List.all_map]
            rfl
          rw [← e]
          exact q _ s2
    · have h1' : decide ((1 : Int) ≤ (z.length : Int)) = false := Bool.eq_false_iff.mpr h1
      refine ⟨_, rfl, iteT ?_⟩
      have e : nameB z = false := by unfold nameB; rw [h1', Bool.false_and, Bool.false_and]
      rw [← e]
      exact q _ (Same.refl H)
  · refine ⟨_, rfl, _, _, _, _, false, rfl, .ty _, ty, kit_ty hk, _, rfl, ?_⟩
    refine iteT (iteT ?_)
    exact q _ (Same.refl H)
def spInteger (K : PySem.W.Frag) : Sp := fun vs H Q _ => ∃ (x : V) (t : String) (bi bb : Bool), vs = [x] ∧ TyX K H x (.type t) ∧ kitB t "int" = some bi ∧ kitB t "bool" = some bb ∧ Q (.bl (bi && !bb)) H
theorem scInteger : FnScope ["value"] ["value"] (defScope sIsInteger) := ⟨rfl, rfl, rfl, by decide +kernel, rfl, by decide +kernel, by decide +kernel⟩
theorem ok_isinteger {f : Addr} {fd : FuncData} (F : Fun K "is_integer" "is_integer" sIsInteger f fd) (T : NameTxt mg) : FnOk P w K mg base CX0 1 f fd ["value"] (spInteger K) := by
  refine F.ok scInteger (fun vs H Q E h => ?_) (fun cdv A outer s H vs Q E hr h => ?_)
  · obtain ⟨x, t, bi, bb, rfl, _⟩ := h
    rfl
  obtain ⟨x, t, bi, bb, rfl, ty, h1, h2, q⟩ := h
  refine ⟨_, pss_one (ps_ret (pe_and (pe_callB call_isi (by rfl) T.isi (by decide +kernel) (pa_cons (pv 0) (pa_cons (pe_bltn (v := .ty "int") (by rfl) T.int (by decide +kernel) rfl) pa_nil)))
    (pe_one (pe_not (pe_callB call_isi (by rfl) T.isi (by decide +kernel) (pa_cons (pv 0) (pa_cons (pe_bltn (v := .ty "bool") (by rfl) T.bool (by decide +kernel) rfl) pa_nil))))))), ?_⟩
  refine ⟨_, rfl, _, _, _, _, bi, rfl, .ty _, ty, kit_ty h1, _, rfl, ?_⟩
  cases bi with
  | true =>
    refine iteT ?_
    exact ⟨_, rfl, _, _, _, _, bb, rfl, .ty _, ty, kit_ty h2, _, rfl, q⟩
  | false => exact iteF q
def spNumber (K : PySem.W.Frag) : Sp := fun vs H Q _ => ∃ (x : V) (lo hi : Int), vs = [x, .int lo, .int hi] ∧ ((∃ i, x = .int i ∧ Q (.bl (decide (lo ≤ i) && decide (i ≤ hi))) H) ∨
  (∃ (t : String) (bi bb : Bool), TyX K H x (.type t) ∧ kitB t "int" = some bi ∧ kitB t "bool" = some bb ∧ (bi && !bb) = false ∧ Q (.bl false) H))
theorem scNumber : FnScope ["value", "least", "most"] ["value", "least", "most"] (defScope sIsNumber) := ⟨rfl, rfl, rfl, by decide +kernel, rfl, by decide +kernel, by decide +kernel⟩
theorem ok_isnumber {f g : Addr} {fd gd : FuncData} (F : Fun K "is_number" "is_number" sIsNumber f fd) (G : FnOk P w K mg base CX0 1 g gd ["value"] (spInteger K)) (bG : Binds K gd ["value"] []) (kG : PySem.W.keepIn K (.ref g) = true) (mG : mg "is_integer" = some (.ref g)) :
    FnOk P w K mg base CX0 2 f fd ["value", "least", "most"] (spNumber K) := by
  refine F.ok scNumber (fun vs H Q E h => ?_) (fun cdv A outer s H vs Q E hr h => ?_)
  · obtain ⟨x, lo, hi, rfl, _⟩ := h
    rfl
  obtain ⟨x, lo, hi, rfl, h⟩ := h
  refine ⟨_, pss_one (ps_ret (pe_and (pe_call G hr (by rfl) mG kG bG .nil pass0 (pa_cons (pv 0) pa_nil)) (pe_one (pe_chain op_le op_le (pv 1) (pv 0) (pv 2))))), ?_⟩
  rcases h with ⟨i, rfl, q⟩ | ⟨t, bi, bb, ty, h1, h2, h3, q⟩
  · refine ⟨_, rfl, _, "int", true, false, rfl, .base (.int i), by decide +kernel, by decide +kernel, _, rfl, iteT ?_⟩
    refine ⟨_, rfl, _, rfl, lo, i, rfl, rfl, _, rfl, ?_⟩
    cases h : decide (lo ≤ i) with
    | true =>
      rw [h, Bool.true_and] at q
      exact iteT ⟨_, rfl, i, hi, rfl, rfl, q⟩
    | false =>
      rw [h, Bool.false_and] at q
      exact iteF q
  · refine ⟨_, rfl, _, t, bi, bb, rfl, ty, h1, h2, _, rfl, ?_⟩
    rw [h3]
    exact iteF q
/-! ### parts, their words -/
structure Tm where
  n : Int
  d : Int
  a : Str
inductive Pt where
  | flat (k w : Str) (es : List Str)
  | mix (w : Str) (ts : List Tm)
  | use (w p : Str) (es : List Str)
/-- place by place -/
def All2 {α β : Type} (R : α → β → Prop) (xs : List α) (ys : List β) : Prop := xs.length = ys.length ∧ ∀ (i : Nat) (x : α) (y : β), xs[i]? = some x → ys[i]? = some y → R x y
theorem All2.mono {α β : Type} {R S : α → β → Prop} {xs : List α} {ys : List β} (h : All2 R xs ys) (f : ∀ x y, R x y → S x y) : All2 S xs ys := ⟨h.1, fun i x y a b => f x y (h.2 i x y a b)⟩
theorem All2.nil {α β : Type} {R : α → β → Prop} : All2 R [] [] := ⟨rfl, fun i x y h => by simp at h⟩
theorem All2.snoc {α β : Type} {R : α → β → Prop} {xs : List α} {ys : List β} {x : α} {y : β} (h : All2 R xs ys) (r : R x y) : All2 R (xs ++ [x]) (ys ++ [y]) := by
  refine ⟨by rw [List.length_append, List.length_append, h.1]; rfl, fun i u v hu hv => ?_⟩
  rw [List.getElem?_append] at hu hv
  rw [← h.1] at hv
  by_cases hi : i < xs.length
  · rw [if_pos hi] at hu hv
    exact h.2 i u v hu hv
  · rw [if_neg hi] at hu hv
    cases hk : i - xs.length with
    | zero =>
      rw [hk] at hu hv
      cases Option.some.inj hu
      cases Option.some.inj hv
      exact r
    | succ k =>
      rw [hk] at hu
      cases hu
theorem All2.get {α β : Type} {R : α → β → Prop} {xs : List α} {ys : List β} (h : All2 R xs ys) {i : Nat} {x : α} (hx : xs[i]? = some x) : ∃ y, ys[i]? = some y ∧ R x y := by
  have hi : i < ys.length := by
    rw [← h.1]
    exact (List.getElem?_eq_some_iff.mp hx).1
  exact ⟨ys[i], List.getElem?_eq_getElem hi, h.2 i x _ hx (List.getElem?_eq_getElem hi)⟩
def TmAt (H : Hp) (v : V) (t : Tm) : Prop := ∃ a, v = .ref a ∧ H a = some (.tup [.int t.n, .int t.d, .str t.a])
def PtAt (H : Hp) (v : V) : Pt → Prop
  | .flat k w es => ∃ a, v = .ref a ∧ H a = some (.tup (.str k :: .str w :: es.map V.str))
  | .mix w ts => ∃ a b vs, v = .ref a ∧ H a = some (.tup [.str "mix", .str w, .ref b]) ∧ H b = some (.tup vs) ∧ All2 (TmAt H) vs ts
  | .use w p es => ∃ a b, v = .ref a ∧ H a = some (.tup [.str "use", .str w, .str p, .ref b]) ∧ H b = some (.tup (es.map V.str))
/-- tuples that stood, stand -/
def Tups (H H' : Hp) : Prop := ∀ a xs, H a = some (.tup xs) → H' a = some (.tup xs)
theorem Same.tups {H H' : Hp} (s : Same H H') : Tups H H' := fun a xs h => s a _ h
theorem Kp.tups {b c : Addr} {H H' : Hp} (k : Kp b H H') (B : Bag H b c) : Tups H H' := fun a xs h => by
  obtain ⟨ns, p, r, s, q, B⟩ := B
  exact k a _ h (ne_of h B.lb (by intro z; cases z))
theorem Tups.trans {H H1 H2 : Hp} (x : Tups H H1) (y : Tups H1 H2) : Tups H H2 := fun a xs h => y a xs (x a xs h)
theorem TmAt.tups {H H' : Hp} (s : Tups H H') {v : V} {t : Tm} (h : TmAt H v t) : TmAt H' v t := by
  obtain ⟨a, e, h⟩ := h
  exact ⟨a, e, s _ _ h⟩
theorem PtAt.tups {H H' : Hp} (s : Tups H H') {v : V} : ∀ {p : Pt}, PtAt H v p → PtAt H' v p
  | .flat _ _ _, ⟨a, e, h⟩ => ⟨a, e, s _ _ h⟩
  | .mix _ _, ⟨a, b, vs, e, h1, h2, h3⟩ => ⟨a, b, vs, e, s _ _ h1, s _ _ h2, h3.mono fun _ _ h => h.tups s⟩
  | .use _ _ _, ⟨a, b, e, h1, h2⟩ => ⟨a, b, e, s _ _ h1, s _ _ h2⟩
structure SmT (t : Tm) : Prop where
  n0 : -99 ≤ t.n
  n1 : t.n ≤ 99
  d0 : 0 ≤ t.d
  d1 : t.d ≤ 4
  a : t.a.length ≤ 10
def SmP : Pt → Prop
  | .flat k w es => ¬ k = "mix" ∧ ¬ k = "use" ∧ k.length ≤ 10 ∧ w.length ≤ 10 ∧ es.length ≤ 10 ∧ ∀ e ∈ es, e.length ≤ 10
  | .mix w ts => w.length ≤ 10 ∧ ts.length ≤ 10 ∧ ∀ t ∈ ts, SmT t
  | .use w p es => w.length ≤ 10 ∧ p.length ≤ 10 ∧ es.length ≤ 10 ∧ ∀ e ∈ es, e.length ≤ 10
/-- the digits of a number -/
def dec (i : Int) : Str := toString i
theorem dec_len {i : Int} (h0 : -99 ≤ i) (h1 : i ≤ 99) : (dec i).length ≤ 10 := by
  have all : ∀ k : Fin 199, (dec ((k.val : Int) - 99)).length ≤ 10 := by decide +kernel
  have e : i = (((⟨(i + 99).toNat, by omega⟩ : Fin 199).val : Nat) : Int) - 99 := by
    show i = ((i + 99).toNat : Int) - 99
    omega
  rw [e]
  exact all _
theorem dec_log {i : Int} (h0 : -99 ≤ i) (h1 : i ≤ 99) : i.natAbs.log2 < 1920 := by
  have h : i.natAbs < 2 ^ 7 := by omega
  by_cases z : i.natAbs = 0
  · rw [z]; decide
  · exact Nat.lt_trans ((Nat.log2_lt z).mpr h) (by decide)
def tmWords (first : Bool) (t : Tm) : List Str := (if first = true then [] else [("," : Str)]) ++ [dec t.n, t.a] ++ (if t.d = 0 then [] else [("late" : Str), dec t.d])
/-- the words of the first i terms -/
def tmsW (ts : List Tm) : Nat → List Str
  | 0 => []
  | i + 1 => tmsW ts i ++ (match ts[i]? with | some t => tmWords (i == 0) t | none => [])
theorem tmsW_succ {ts : List Tm} {i : Nat} {t : Tm} (h : ts[i]? = some t) : tmsW ts (i + 1) = tmsW ts i ++ tmWords (i == 0) t := by
  show tmsW ts i ++ (match ts[i]? with | some t => tmWords (i == 0) t | none => []) = _
  rw [h]
def ptW : Pt → List Str
  | .flat k w es => w :: k :: es
  | .mix w ts => w :: ("mix" : Str) :: tmsW ts ts.length
  | .use w p es => w :: ("use" : Str) :: p :: es
def psW (ps : List Pt) : Nat → List Str
  | 0 => []
  | i + 1 => psW ps i ++ (match ps[i]? with | some p => ptW p ++ [(";" : Str)] | none => [])
theorem psW_succ {ps : List Pt} {i : Nat} {p : Pt} (h : ps[i]? = some p) : psW ps (i + 1) = psW ps i ++ (ptW p ++ [(";" : Str)]) := by
  show psW ps i ++ (match ps[i]? with | some p => ptW p ++ [(";" : Str)] | none => []) = _
  rw [h]
def netW (ps : List Pt) (os : List Str) : List Str := psW ps ps.length ++ [(">" : Str)] ++ os
def Lo (l : List Str) (n : Nat) : Prop := l.length ≤ n ∧ ∀ z ∈ l, z.length ≤ 10
theorem Lo.app {l m : List Str} {a b : Nat} (h : Lo l a) (g : Lo m b) : Lo (l ++ m) (a + b) := ⟨by rw [List.length_append]; exact Nat.add_le_add h.1 g.1, fun z hz => (List.mem_append.mp hz).elim (h.2 z) (g.2 z)⟩
theorem Lo.le {l : List Str} {a b : Nat} (h : Lo l a) (k : a ≤ b) : Lo l b := ⟨Nat.le_trans h.1 k, h.2⟩
theorem lo_of {l : List Str} (n : Nat) (h : l.length ≤ n) (g : ∀ z ∈ l, z.length ≤ 10) : Lo l n := ⟨h, g⟩
theorem tmWords_lo {b : Bool} {t : Tm} (h : SmT t) : Lo (tmWords b t) 5 := by
  unfold tmWords
  refine Lo.app (a := 3) (b := 2) (Lo.app (a := 1) (b := 2) ?_ ?_) ?_
  · cases b with
    | true => exact ⟨Nat.zero_le _, fun z hz => nomatch hz⟩
    | false => exact ⟨by decide, by decide +kernel⟩
  · refine ⟨by show 2 ≤ 2; decide, fun z hz => ?_⟩
    rcases List.mem_cons.mp hz with e | hz
    · rw [e]; exact dec_len h.n0 h.n1
    · rw [List.mem_singleton.mp hz]; exact h.a
  · by_cases e : t.d = 0
    · rw [if_pos e]; exact ⟨Nat.zero_le _, fun z hz => nomatch hz⟩
    · rw [if_neg e]
      refine ⟨by show 2 ≤ 2; decide, fun z hz => ?_⟩
      have d0 := h.d0
      have d1 := h.d1
      rcases List.mem_cons.mp hz with e | hz
      · rw [e]; decide +kernel
      · rw [List.mem_singleton.mp hz]; exact dec_len (by omega) (by omega)
theorem tmsW_lo {ts : List Tm} (h : ∀ t ∈ ts, SmT t) : ∀ i, Lo (tmsW ts i) (5 * i)
  | 0 => ⟨Nat.le_refl _, fun z hz => nomatch hz⟩
  | i + 1 => by
    show Lo (tmsW ts i ++ (match ts[i]? with | some t => tmWords (i == 0) t | none => [])) (5 * i + 5)
    refine (tmsW_lo h i).app ?_
    cases e : ts[i]? with
    | none => exact ⟨Nat.zero_le _, fun z hz => nomatch hz⟩
    | some t => exact tmWords_lo (h t (List.mem_of_getElem? e))
theorem ptW_lo : ∀ {p : Pt}, SmP p → Lo (ptW p) 60
  | .flat k w es, ⟨_, _, hk, hw, hl, he⟩ => (lo_of (l := [w, k]) 2 (Nat.le_refl _) (fun z hz => by
      rcases List.mem_cons.mp hz with e | hz
      · rw [e]; exact hw
      · rw [List.mem_singleton.mp hz]; exact hk)).app (lo_of 58 (by omega) he)
  | .mix w ts, ⟨hw, hl, ht⟩ => (lo_of (l := [w, ("mix" : Str)]) 2 (Nat.le_refl _) (fun z hz => by
      rcases List.mem_cons.mp hz with e | hz
      · rw [e]; exact hw
      · rw [List.mem_singleton.mp hz]; decide +kernel)).app ((tmsW_lo ht ts.length).le (b := 58) (by omega))
  | .use w p es, ⟨hw, hp, hl, he⟩ => (lo_of (l := [w, ("use" : Str), p]) 3 (Nat.le_refl _) (fun z hz => by
      rcases List.mem_cons.mp hz with e | hz
      · rw [e]; exact hw
      · rcases List.mem_cons.mp hz with e | hz
        · rw [e]; decide +kernel
        · rw [List.mem_singleton.mp hz]; exact hp)).app (lo_of 57 (by omega) he)
theorem psW_lo {ps : List Pt} (h : ∀ p ∈ ps, SmP p) : ∀ i, Lo (psW ps i) (61 * i)
  | 0 => ⟨Nat.le_refl _, fun z hz => nomatch hz⟩
  | i + 1 => by
    show Lo (psW ps i ++ (match ps[i]? with | some p => ptW p ++ [(";" : Str)] | none => [])) (61 * i + 61)
    refine (psW_lo h i).app ?_
    cases e : ps[i]? with
    | none => exact ⟨Nat.zero_le _, fun z hz => nomatch hz⟩
    | some p => exact (ptW_lo (h p (List.mem_of_getElem? e))).app (lo_of (l := [(";" : Str)]) 1 (Nat.le_refl _) (by decide +kernel))
theorem lo_sum {l : List Str} (h : ∀ z ∈ l, z.length ≤ 10) : (l.map (·.length)).sum ≤ 10 * l.length := by
  induction l with
  | nil => exact Nat.le_refl _
  | cons x r ih =>
    have h1 := h x (List.mem_cons_self ..)
    have h2 := ih fun z hz => h z (List.mem_cons_of_mem _ hz)
    rw [List.map_cons, List.sum_cons, List.length_cons]
    omega
/-! ### text_of and its helpers -/
abbrev sText : Stmt := top 27
abbrev sPartW : Stmt := top 28
abbrev sTermsW : Stmt := top 29
theorem same_wr {H H' : Hp} (s : Same H H') {p : Addr} (h : H p = none) (o : HO) : Same H (upd H' p o) := fun a u e => by rw [upd_ne (ne_of_none e h)]; exact s a u e
theorem strs_app (l m : List Str) : l.map V.str ++ m.map V.str = (l ++ m).map V.str := (List.map_append ..).symm
def spTermsW : Sp := fun vs H Q _ => ∃ (b : Addr) (us : List V) (ts : List Tm), vs = [.ref b] ∧ H b = some (.tup us) ∧ All2 (TmAt H) us ts ∧ ts.length ≤ 10 ∧ (∀ t ∈ ts, SmT t) ∧
  ∀ (l : Addr) (H' : Hp), Same H H' → H l = none → H' l = some (.lst ((tmsW ts ts.length).map V.str)) → Q (.ref l) H'
theorem scTermsW : FnScope ["terms", "words", "at", "factor", "delay", "wire"] ["terms"] (defScope sTermsW) := ⟨rfl, rfl, rfl, by decide +kernel, rfl, by decide +kernel, by decide +kernel⟩
theorem ok_termsW {f : Addr} {fd : FuncData} (F : Fun K "words_of_terms" "words_of_terms" sTermsW f fd) (menum : mg "enumerate" = none) (mstr : mg "str" = none) : FnOk P w K mg base CX0 1 f fd ["terms"] spTermsW := by
  refine F.ok scTermsW (fun vs H Q E h => ?_) (fun cdv A outer s H vs Q E hr h => ?_)
  · obtain ⟨b, us, ts, rfl, _⟩ := h
    rfl
  obtain ⟨b, us, ts, rfl, hb, hA, h10, hsm, q⟩ := h
  refine ⟨_, pss_cons (ps_set (i := 1) scTermsW.nd rfl (Or.inl rfl) (pe_lst pa_nil))
    (pss_cons (ps_for PassesOwn.never rfl (pi_enumT (by rfl) menum (pa_cons (pv 0) pa_nil))
      (pg_tup (n := 2) rfl (pgs_cons (pg_name (i := 2) scTermsW.nd rfl (Or.inl rfl)) (pgs_cons (pg_tup (n := 3) rfl (pgs_cons (pg_name (i := 3) scTermsW.nd rfl (Or.inl rfl)) (pgs_cons (pg_name (i := 4) scTermsW.nd rfl (Or.inl rfl)) (pgs_cons (pg_name (i := 5) scTermsW.nd rfl (Or.inl rfl)) pgs_nil)))) pgs_nil)))
      (C8.pss_cut (ps_if (pt_cmpR op_gt (pv 2) pe_int (nomark _)) (pss_one (ps_expr (pe_bm PySem.F.plainAttrs_list PySem.F.slot_list_append PySem.F.type_list_append mt_append (pv 1) (pa_cons pe_str pa_nil)))) pss_nil)
      (pss_cons (ps_expr (pe_bm PySem.F.plainAttrs_list PySem.F.slot_list_extend PySem.F.type_list_extend mt_extend (pv 1) (pa_cons (pe_lst (pa_cons (pe_callTy call_str_int (by rfl) mstr (by decide +kernel) (pa_cons (pv 3) pa_nil)) (pa_cons (pv 5) pa_nil))) pa_nil)))
      (pss_one (ps_if (pt_cmpR op_ne (pv 4) pe_int (nomark _)) (pss_one (ps_expr (pe_bm PySem.F.plainAttrs_list PySem.F.slot_list_extend PySem.F.type_list_extend mt_extend (pv 1) (pa_cons (pe_lst (pa_cons pe_str (pa_cons (pe_callTy call_str_int (by rfl) mstr (by decide +kernel) (pa_cons (pv 4) pa_nil)) pa_nil))) pa_nil)))) pss_nil)))))
    (pss_one (ps_ret (pv 1)))), ?_⟩
  refine ⟨Nat.zero_le _, fun L hL => ?_⟩
  have nbL : b ≠ L := ne_of_none hb hL
  have s1 : Same H (upd H L (.lst [])) := same_upd hL _
  refine ⟨.ref b, rfl, b, us, rfl, SqT.of (s1 _ _ hb), for_enumT (xs := us) (fun i σ H2 => ∃ v2 v3 v4 v5, σ = [some (.ref b), some (.ref L), v2, v3, v4, v5] ∧ Same H H2 ∧ H2 L = some (.lst ((tmsW ts i).map V.str)))
    ⟨none, none, none, none, rfl, s1, upd_same⟩ (fun i σ H2 ⟨_, _, _, _, _, s2, _⟩ => SqT.of (s2 _ _ hb)) ?_ ?_⟩
  · rintro i x T σ H2 hx ⟨v2, v3, v4, v5, rfl, s2, hL2⟩ hT
    obtain ⟨t, ht, a, rfl, ha⟩ := hA.get hx
    have hi : i < ts.length := (List.getElem?_eq_some_iff.mp ht).1
    have sm := hsm t (List.mem_of_getElem? ht)
    have nLT : L ≠ T := ne_of_none hL2 hT
    have s3 : Same H (upd H2 T (.tup [.int (i : Nat), .ref a])) := s2.trans (same_upd hT _)
    have lo := tmsW_lo hsm i
    have hlo : ((tmsW ts i).map V.str).length ≤ 50 := by rw [List.length_map]; exact Nat.le_trans lo.1 (by omega)
    have h1000 : (1000 : Nat) ≤ sizeLine := by decide
    refine ⟨T, [.int (i : Nat), .ref a], rfl, SqT.of upd_same, rfl, _, _, rfl, .ref a, [], rfl, a, _, rfl, SqT.of (s3 _ _ ha), rfl, _, _, rfl, _, _, rfl, _, _, rfl, rfl, rfl, ?_⟩
    -- if at > 0
    refine ⟨fun σ' H3 => σ' = [some (.ref b), some (.ref L), some (.int (i : Nat)), some (.int t.n), some (.int t.d), some (.str t.a)] ∧ Same H H3 ∧ H3 L = some (.lst ((tmsW ts i ++ (if (i == 0) = true then [] else [("," : Str)])).map V.str)), ?_, ?_⟩
    · refine ⟨_, rfl, _, _, rfl, rfl, _, rfl, ?_⟩
      refine ite2 (fun c => ?_) (fun c => ?_)
      · have c' : (0 : Int) < ((i : Nat) : Int) := of_decide_eq_true c
        refine ⟨.ref L, rfl, .inl ⟨rfl, _, SqL.of (by rw [upd_ne nLT]; exact hL2)⟩, L, _, _, rfl, rfl, by rw [upd_ne nLT]; exact hL2, by omega, ?_⟩
        refine ⟨rfl, same_wr s3 hL _, ?_⟩
        rw [upd_same, if_neg (by simp; omega), List.map_append]
        rfl
      · have c' : ¬ (0 : Int) < ((i : Nat) : Int) := of_decide_eq_false (Bool.eq_false_iff.mpr c)
        refine ⟨rfl, s3, ?_⟩
        rw [upd_ne nLT, if_pos (by simp; omega), List.append_nil]
        exact hL2
    rintro σ' H3 ⟨rfl, s4, hL3⟩
    generalize hsep : (if (i == 0) = true then [] else [("," : Str)]) = sep at hL3
    have hsl : sep.length ≤ 1 := by
      rw [← hsep]
      cases (i == 0) with
      | true => exact Nat.zero_le _
      | false => exact Nat.le_refl _
    have hlen3 : ((tmsW ts i ++ sep).map V.str).length ≤ 51 := by
      rw [List.length_map] at hlo ⊢
      rw [List.length_append]
      omega
    -- words.extend([str(factor), wire])
    refine ⟨.ref L, rfl, .inl ⟨rfl, _, SqL.of hL3⟩, _, rfl, _, rfl, dec_log sm.n0 sm.n1, _, rfl, (by show 2 ≤ sizeLine; decide), fun m hm => ?_⟩
    have nLm : L ≠ m := ne_of_none hL3 hm
    refine ⟨L, m, _, _, rfl, rfl, by rw [upd_ne nLm]; exact hL3, upd_same, (by show _ + 2 ≤ _; omega), ?_⟩
    have s5 : Same H (upd (upd H3 m (.lst [.str (toString t.n), .str t.a])) L (.lst ((tmsW ts i ++ sep).map V.str ++ [.str (toString t.n), .str t.a]))) := same_wr (s4.trans (same_upd hm _)) hL _
    have e5 : (tmsW ts i ++ sep).map V.str ++ [.str (toString t.n), .str t.a] = ((tmsW ts i ++ sep) ++ [dec t.n, t.a]).map V.str := strs_app (tmsW ts i ++ sep) [dec t.n, t.a]
    have hL5 : (upd (upd H3 m (.lst [.str (toString t.n), .str t.a])) L (.lst ((tmsW ts i ++ sep).map V.str ++ [.str (toString t.n), .str t.a]))) L = some (.lst (((tmsW ts i ++ sep) ++ [dec t.n, t.a]).map V.str)) := by rw [upd_same, e5]
    generalize (upd (upd H3 m (.lst [.str (toString t.n), .str t.a])) L (.lst ((tmsW ts i ++ sep).map V.str ++ [.str (toString t.n), .str t.a]))) = H5 at s5 hL5
    -- if delay != 0
    refine ⟨_, rfl, rfl, _, rfl, ?_⟩
    refine ite2 (fun c => ?_) (fun c => ?_)
    · have d0 : ¬ t.d = 0 := fun e => by
        rw [e] at c
        cases c
      have d0' := sm.d0
      have d1' := sm.d1
      refine ⟨.ref L, rfl, .inl ⟨rfl, _, SqL.of hL5⟩, _, rfl, _, rfl, dec_log (by omega) (by omega), (by show 2 ≤ sizeLine; decide), fun m2 hm2 => ?_⟩
      have nLm2 : L ≠ m2 := ne_of_none hL5 hm2
      refine ⟨L, m2, _, _, rfl, rfl, by rw [upd_ne nLm2]; exact hL5, upd_same, ?_, ?_⟩
      · rw [List.length_map, List.length_append]
        rw [List.length_map] at hlen3
        show _ + 2 + 2 ≤ _
        omega
      · refine ⟨_, _, _, _, rfl, same_wr (s5.trans (same_upd hm2 _)) hL _, ?_⟩
        rw [upd_same, tmsW_succ ht]
        unfold tmWords
        rw [hsep, if_neg d0]
        have e6 : (tmsW ts i ++ sep ++ [dec t.n, t.a]).map V.str ++ [V.str "late", V.str (toString t.d)] = ((tmsW ts i ++ sep ++ [dec t.n, t.a]) ++ [("late" : Str), dec t.d]).map V.str := strs_app _ [("late" : Str), dec t.d]
        rw [e6]
        simp only [List.append_assoc]
    · have d0 : t.d = 0 := by
        by_cases e : t.d = 0
        · exact e
        · exact absurd (show (!decide (V.int t.d = V.int 0)) = true by rw [decide_eq_false (fun z => e (V.int.inj z))]; rfl) c
      refine ⟨_, _, _, _, rfl, s5, ?_⟩
      rw [hL5, tmsW_succ ht]
      unfold tmWords
      rw [hsep, if_pos d0, List.append_nil, List.append_assoc]
  · rintro σ H2 ⟨v2, v3, v4, v5, rfl, s2, hL2⟩
    rw [hA.1] at hL2
    exact ⟨.ref L, rfl, q L H2 s2 hL hL2⟩
def spPartW : Sp := fun vs H Q _ => ∃ (x : V) (p : Pt), vs = [x] ∧ PtAt H x p ∧ SmP p ∧ ∀ (l : Addr) (H' : Hp), Same H H' → H l = none → H' l = some (.lst ((ptW p).map V.str)) → Q (.ref l) H'
theorem scPartW : FnScope ["part", "kind", "wire", "items"] ["part"] (defScope sPartW) := ⟨rfl, rfl, rfl, by decide +kernel, rfl, by decide +kernel, by decide +kernel⟩
theorem ok_partW {f g : Addr} {fd gd : FuncData} (F : Fun K "words_of_part" "words_of_part" sPartW f fd) (G : Df P w K mg base 1 g gd "words_of_terms" ["terms"] spTermsW) : FnOk P w K mg base CX0 2 f fd ["part"] spPartW := by
  refine F.ok scPartW (fun vs H Q E h => ?_) (fun cdv A outer s H vs Q E hr h => ?_)
  · obtain ⟨x, p, rfl, _⟩ := h
    rfl
  obtain ⟨x, p, rfl, hp, hs, q⟩ := h
  refine ⟨_, pss_cons (ps_asg (pv 0) (pg_star (n := 2) rfl (pgs_cons (pg_name (i := 1) scPartW.nd rfl (Or.inl rfl)) (pgs_cons (pg_name (i := 2) scPartW.nd rfl (Or.inl rfl)) (pgs_star (pg_name (i := 3) scPartW.nd rfl (Or.inl rfl)))))))
    (pss_cons (ps_if (pt_cmpR op_eq (pv 1) pe_str (nomark _)) (pss_one (ps_ret (pe_lst (pa_cons (pv 2) (pa_cons (pv 1) (StX.pa_star (pe_call G.ok hr (by rfl) G.m G.kp G.b .nil pass0 (pa_cons (pe_ix ix_list (pv 3) pe_int (fun _ _ => rfl)) pa_nil)) pa_nil)))))) pss_nil)
    (pss_cons (ps_if (pt_cmpR op_eq (pv 1) pe_str (nomark _)) (pss_one (ps_ret (pe_lst (pa_cons (pv 2) (pa_cons (pv 1) (pa_cons (pe_ix ix_list (pv 3) pe_int (fun _ _ => rfl)) (StX.pa_star (pe_ix ix_list (pv 3) pe_int (fun _ _ => rfl)) pa_nil))))))) pss_nil)
    (pss_one (ps_ret (pe_lst (pa_cons (pv 2) (pa_cons (pv 1) (StX.pa_star (pv 3) pa_nil)))))))), ?_⟩
  have lo := ptW_lo hs
  have h1000 : (1000 : Nat) ≤ sizeLine := by decide
  have lenOk : ∀ l : List Str, l.length ≤ 60 → (l.map V.str).length ≤ sizeLine := fun l h => by rw [List.length_map]; omega
  cases p with
  | flat k w es =>
    obtain ⟨a, rfl, ha⟩ := hp
    obtain ⟨n1, n2, _⟩ := hs
    refine ⟨.ref a, rfl, a, _, rfl, SqT.of ha, (by show 2 ≤ _ + 2; omega), fun p hp0 => ?_⟩
    refine ⟨_, _, rfl, _, _, rfl, _, _, rfl, rfl, ?_⟩
    refine ⟨_, rfl, rfl, _, rfl, ?_⟩
    rw [decide_eq_false (fun e => n1 (V.str.inj e))]
    refine iteF ?_
    refine ⟨_, rfl, rfl, _, rfl, ?_⟩
    rw [decide_eq_false (fun e => n2 (V.str.inj e))]
    refine iteF ?_
    refine ⟨_, rfl, _, rfl, _, rfl, p, _, rfl, .inr (SqL.of upd_same), ?_, fun l hl => ?_⟩
    · have e := lenOk (w :: k :: es) lo.1
      have e2 : (List.drop 2 (V.str k :: V.str w :: es.map V.str) ++ []).length = es.length := by
        rw [List.append_nil]
        show (es.map V.str).length = _
        rw [List.length_map]
      rw [List.length_map] at e
      show (List.drop 2 (V.str k :: V.str w :: es.map V.str) ++ []).length + 1 + 1 ≤ _
      rw [e2]
      exact e
    · refine q l _ ((same_upd hp0 _).trans (same_upd hl _)) ((same_upd hp0 _).free hl) ?_
      rw [upd_same]
      show some (HO.lst (V.str w :: V.str k :: (es.map V.str ++ []))) = some (HO.lst (V.str w :: V.str k :: es.map V.str))
      rw [List.append_nil]
  | mix w ts =>
    obtain ⟨a, b, us, rfl, ha, hb, hA⟩ := hp
    obtain ⟨_, hl, ht⟩ := hs
    refine ⟨.ref a, rfl, a, _, rfl, SqT.of ha, (by show 2 ≤ 3; decide), fun p hp0 => ?_⟩
    have s1 := same_upd hp0 (.lst [.ref b])
    refine ⟨_, _, rfl, _, _, rfl, _, _, rfl, rfl, ?_⟩
    refine ⟨_, rfl, rfl, _, rfl, ?_⟩
    rw [decide_eq_true (rfl : V.str "mix" = V.str "mix")]
    refine iteT ?_
    refine ⟨_, rfl, _, rfl, .ref p, rfl, p, [.ref b], 0, .ref b, rfl, rfl, SqL.of upd_same, rfl, ?_⟩
    refine ⟨b, us, ts, rfl, s1 _ _ hb, hA.mono fun _ _ z => z.tups (Same.tups s1), hl, ht, fun l H' s2 hl0 hlH => ?_⟩
    refine ⟨l, _, rfl, .inr (SqL.of hlH), ?_, fun m hm => ?_⟩
    · have e := lo.1
      show ((tmsW ts ts.length).map V.str ++ []).length + 1 + 1 ≤ _
      rw [List.append_nil, List.length_map]
      have e2 : (ptW (.mix w ts)).length = (tmsW ts ts.length).length + 1 + 1 := rfl
      omega
    · refine q m _ ((s1.trans s2).trans (same_upd hm _)) (s1.free (s2.free hm)) ?_
      rw [upd_same]
      show some (HO.lst (V.str w :: V.str "mix" :: ((tmsW ts ts.length).map V.str ++ []))) = _
      rw [List.append_nil]
      rfl
  | use w p es =>
    obtain ⟨a, b, rfl, ha, hb⟩ := hp
    obtain ⟨_, _, hl, _⟩ := hs
    refine ⟨.ref a, rfl, a, _, rfl, SqT.of ha, (by show 2 ≤ 4; decide), fun p0 hp0 => ?_⟩
    have s1 := same_upd hp0 (.lst [.str p, .ref b])
    refine ⟨_, _, rfl, _, _, rfl, _, _, rfl, rfl, ?_⟩
    refine ⟨_, rfl, rfl, _, rfl, ?_⟩
    rw [decide_eq_false (show ¬ V.str "use" = V.str "mix" by decide +kernel)]
    refine iteF ?_
    refine ⟨_, rfl, rfl, _, rfl, ?_⟩
    rw [decide_eq_true (rfl : V.str "use" = V.str "use")]
    refine iteT ?_
    refine ⟨_, rfl, _, rfl, .ref p0, rfl, p0, [.str p, .ref b], 0, .str p, rfl, rfl, SqL.of upd_same, rfl, ?_⟩
    refine ⟨.ref p0, rfl, p0, [.str p, .ref b], 1, .ref b, rfl, rfl, SqL.of upd_same, rfl, ?_⟩
    refine ⟨b, _, rfl, .inl (SqT.of (s1 _ _ hb)), ?_, fun m hm => ?_⟩
    · show (es.map V.str ++ []).length + 1 + 1 + 1 ≤ _
      rw [List.append_nil, List.length_map]
      omega
    · refine q m _ (s1.trans (same_upd hm _)) (s1.free hm) ?_
      rw [upd_same]
      show some (HO.lst (V.str w :: V.str "use" :: V.str p :: (es.map V.str ++ []))) = _
      rw [List.append_nil]
      rfl
theorem sameT {H H' : Hp} (s : Same H H') {a : Addr} {xs : List V} (h : SqT K H a xs) : SqT K H' a xs := by
  rcases h with (h | ⟨o, h⟩) | h
  · exact .inl (.inl (s _ _ h))
  · exact .inl (.inr ⟨o, s _ _ h⟩)
  · exact .inr h
theorem sameL {H H' : Hp} (s : Same H H') {a : Addr} {xs : List V} (h : SqL K H a xs) : SqL K H' a xs := s.seq h
theorem scText : FnScope ["parts", "outs", "words", "part"] ["parts", "outs"] (defScope sText) := ⟨rfl, rfl, rfl, by decide +kernel, rfl, by decide +kernel, by decide +kernel⟩
/-- text_of over a L of parts -/
def spTextL (K : PySem.W.Frag) : Sp := fun vs H Q _ => ∃ (a o : Addr) (us : List V) (ps : List Pt) (os : List Str), vs = [.ref a, .ref o] ∧ SqL K H a us ∧ All2 (PtAt H) us ps ∧ ps.length ≤ 20 ∧ (∀ p ∈ ps, SmP p) ∧
  (SqT K H o (os.map V.str) ∨ SqL K H o (os.map V.str)) ∧ Lo os 20 ∧ ∀ H', Same H H' → Q (.str (Txt.join " " (netW ps os))) H'
theorem ok_textL {f g : Addr} {fd gd : FuncData} (F : Fun K "text_of" "text_of" sText f fd) (G : Df P w K mg base 2 g gd "words_of_part" ["part"] spPartW) : FnOk P w K mg base CX0 3 f fd ["parts", "outs"] (spTextL K) := by
  refine F.ok scText (fun vs H Q E h => ?_) (fun cdv A outer s H vs Q E hr h => ?_)
  · obtain ⟨a, o, us, ps, os, rfl, _⟩ := h
    rfl
  obtain ⟨a, o, us, ps, os, rfl, ha, hA, hl, hs, ho, lo, q⟩ := h
  refine ⟨_, pss_cons (ps_set (i := 2) scText.nd rfl (Or.inl rfl) (pe_lst pa_nil))
    (pss_cons (ps_for PassesOwn.never rfl (pi_list (pv 0)) (pg_name (i := 3) scText.nd rfl (Or.inl rfl))
      (pss_cons (ps_expr (pe_bm PySem.F.plainAttrs_list PySem.F.slot_list_extend PySem.F.type_list_extend mt_extend (pv 2) (pa_cons (pe_call G.ok hr (by rfl) G.m G.kp G.b .nil pass0 (pa_cons (pv 3) pa_nil)) pa_nil)))
      (pss_one (ps_expr (pe_bm PySem.F.plainAttrs_list PySem.F.slot_list_append PySem.F.type_list_append mt_append (pv 2) (pa_cons pe_str pa_nil))))))
    (pss_one (ps_ret (pe_join pe_str (pe_lst (StX.pa_star (pv 2) (pa_cons pe_str (StX.pa_star (pv 1) pa_nil)))))))), ?_⟩
  have h10000 : (10000 : Nat) ≤ sizeLine := by decide
  refine ⟨Nat.zero_le _, fun L hL => ?_⟩
  have s1 : Same H (upd H L (.lst [])) := same_upd hL _
  refine ⟨.ref a, rfl, a, rfl, ⟨_, sameL s1 ha⟩, for_list (K := K) (a := a) (xs := us) (fun i σ H2 => ∃ v3, σ = [some (.ref a), some (.ref o), some (.ref L), v3] ∧ Same H H2 ∧ H2 L = some (.lst ((psW ps i).map V.str)))
    ⟨none, rfl, s1, upd_same⟩ (fun i σ H2 _ ⟨_, _, s2, _⟩ => sameL s2 ha) ?_ ?_⟩
  · rintro i x σ H2 hx ⟨v3, rfl, s2, hL2⟩
    obtain ⟨p, hp, hxp⟩ := hA.get hx
    have hi : i < ps.length := (List.getElem?_eq_some_iff.mp hp).1
    have hsm := hs p (List.mem_of_getElem? hp)
    have l1 := (psW_lo hs i).1
    have l2 := (ptW_lo hsm).1
    refine ⟨.ref L, rfl, .inl ⟨rfl, _, SqL.of hL2⟩, x, rfl, x, p, rfl, hxp.tups (Same.tups s2), hsm, fun l H3 s3 hl3 hlH => ?_⟩
    have nLl : L ≠ l := ne_of_none hL2 hl3
    have hL3 := s3 _ _ hL2
    refine ⟨L, l, _, _, rfl, rfl, hL3, hlH, ?_, ?_⟩
    · rw [List.length_map, List.length_map]
      omega
    rw [strs_app]
    refine ⟨.ref L, rfl, .inl ⟨rfl, _, SqL.of upd_same⟩, L, _, _, rfl, rfl, upd_same, ?_, ?_⟩
    · rw [List.length_map, List.length_append]
      omega
    · refine ⟨_, rfl, same_wr (same_wr (s2.trans s3) hL _) hL _, ?_⟩
      have e : ((psW ps i ++ ptW p).map V.str ++ [V.str ";"]) = (psW ps (i + 1)).map V.str := by
        rw [psW_succ hp]
        have e2 := strs_app (psW ps i ++ ptW p) [(";" : Str)]
        rw [List.append_assoc] at e2
        exact e2
      rw [upd_same, e]
  · rintro σ H2 ⟨v3, rfl, s2, hL2⟩
    rw [hA.1] at hL2
    have l1 := psW_lo hs ps.length
    have e : (psW ps ps.length).map V.str ++ (V.str ">" :: (os.map V.str ++ [])) = (netW ps os).map V.str := by
      unfold netW
      rw [List.append_nil, List.map_append, List.map_append, List.append_assoc]
      rfl
    have lo2 : Lo (netW ps os) 1300 := ((l1.app (lo_of (l := [(">" : Str)]) 1 (Nat.le_refl _) (by decide +kernel))).app lo).le (by omega)
    refine ⟨⟨_, rfl⟩, .ref L, rfl, L, _, rfl, .inr (SqL.of hL2), ?_⟩
    refine ⟨.ref o, rfl, o, _, rfl, ho.elim (fun z => .inl (sameT s2 z)) (fun z => .inr (s2.seq z)), ?_, fun m hm => ?_⟩
    · show ((psW ps ps.length).map V.str ++ (V.str ">" :: (os.map V.str ++ []))).length ≤ _
      rw [e, List.length_map]
      exact Nat.le_trans lo2.1 (by omega)
    · refine ⟨" ", m, netW ps os, rfl, rfl, .inl (SqL.of ?_), ?_, q _ (s2.trans (same_upd hm _))⟩
      · rw [upd_same]
        show some (HO.lst ((psW ps ps.length).map V.str ++ (V.str ">" :: (os.map V.str ++ [])))) = _
        rw [e]
      · have h1 := lo_sum lo2.2
        have h2 := lo2.1
        have e1 : ((" " : String) : Str).length = 1 := by decide +kernel
        rw [e1]
        omega
/-- text_of over a T of parts -/
def spTextT (K : PySem.W.Frag) : Sp := fun vs H Q _ => ∃ (a o : Addr) (us : List V) (ps : List Pt) (os : List Str), vs = [.ref a, .ref o] ∧ SqT K H a us ∧ All2 (PtAt H) us ps ∧ ps.length ≤ 20 ∧ (∀ p ∈ ps, SmP p) ∧
  (SqT K H o (os.map V.str) ∨ SqL K H o (os.map V.str)) ∧ Lo os 20 ∧ ∀ H', Same H H' → Q (.str (Txt.join " " (netW ps os))) H'
theorem ok_textT {f g : Addr} {fd gd : FuncData} (F : Fun K "text_of" "text_of" sText f fd) (G : Df P w K mg base 2 g gd "words_of_part" ["part"] spPartW) : FnOk P w K mg base CX0 3 f fd ["parts", "outs"] (spTextT K) := by
  refine F.ok scText (fun vs H Q E h => ?_) (fun cdv A outer s H vs Q E hr h => ?_)
  · obtain ⟨a, o, us, ps, os, rfl, _⟩ := h
    rfl
  obtain ⟨a, o, us, ps, os, rfl, ha, hA, hl, hs, ho, lo, q⟩ := h
  refine ⟨_, pss_cons (ps_set (i := 2) scText.nd rfl (Or.inl rfl) (pe_lst pa_nil))
    (pss_cons (ps_for PassesOwn.never rfl (pi_tup (pv 0)) (pg_name (i := 3) scText.nd rfl (Or.inl rfl))
      (pss_cons (ps_expr (pe_bm PySem.F.plainAttrs_list PySem.F.slot_list_extend PySem.F.type_list_extend mt_extend (pv 2) (pa_cons (pe_call G.ok hr (by rfl) G.m G.kp G.b .nil pass0 (pa_cons (pv 3) pa_nil)) pa_nil)))
      (pss_one (ps_expr (pe_bm PySem.F.plainAttrs_list PySem.F.slot_list_append PySem.F.type_list_append mt_append (pv 2) (pa_cons pe_str pa_nil))))))
    (pss_one (ps_ret (pe_join pe_str (pe_lst (StX.pa_star (pv 2) (pa_cons pe_str (StX.pa_star (pv 1) pa_nil)))))))), ?_⟩
  have h10000 : (10000 : Nat) ≤ sizeLine := by decide
  refine ⟨Nat.zero_le _, fun L hL => ?_⟩
  have s1 : Same H (upd H L (.lst [])) := same_upd hL _
  refine ⟨.ref a, rfl, a, rfl, ⟨_, sameT s1 ha⟩, for_tup (K := K) (a := a) (xs := us) (fun i σ H2 => ∃ v3, σ = [some (.ref a), some (.ref o), some (.ref L), v3] ∧ Same H H2 ∧ H2 L = some (.lst ((psW ps i).map V.str)))
    ⟨none, rfl, s1, upd_same⟩ (fun i σ H2 _ ⟨_, _, s2, _⟩ => sameT s2 ha) ?_ ?_⟩
  · rintro i x σ H2 hx ⟨v3, rfl, s2, hL2⟩
    obtain ⟨p, hp, hxp⟩ := hA.get hx
    have hi : i < ps.length := (List.getElem?_eq_some_iff.mp hp).1
    have hsm := hs p (List.mem_of_getElem? hp)
    have l1 := (psW_lo hs i).1
    have l2 := (ptW_lo hsm).1
    refine ⟨.ref L, rfl, .inl ⟨rfl, _, SqL.of hL2⟩, x, rfl, x, p, rfl, hxp.tups (Same.tups s2), hsm, fun l H3 s3 hl3 hlH => ?_⟩
    have nLl : L ≠ l := ne_of_none hL2 hl3
    have hL3 := s3 _ _ hL2
    refine ⟨L, l, _, _, rfl, rfl, hL3, hlH, ?_, ?_⟩
    · rw [List.length_map, List.length_map]
      omega
    rw [strs_app]
    refine ⟨.ref L, rfl, .inl ⟨rfl, _, SqL.of upd_same⟩, L, _, _, rfl, rfl, upd_same, ?_, ?_⟩
    · rw [List.length_map, List.length_append]
      omega
    · refine ⟨_, rfl, same_wr (same_wr (s2.trans s3) hL _) hL _, ?_⟩
      have e : ((psW ps i ++ ptW p).map V.str ++ [V.str ";"]) = (psW ps (i + 1)).map V.str := by
        rw [psW_succ hp]
        have e2 := strs_app (psW ps i ++ ptW p) [(";" : Str)]
        rw [List.append_assoc] at e2
        exact e2
      rw [upd_same, e]
  · rintro σ H2 ⟨v3, rfl, s2, hL2⟩
    rw [hA.1] at hL2
    have l1 := psW_lo hs ps.length
    have e : (psW ps ps.length).map V.str ++ (V.str ">" :: (os.map V.str ++ [])) = (netW ps os).map V.str := by
      unfold netW
      rw [List.append_nil, List.map_append, List.map_append, List.append_assoc]
      rfl
    have lo2 : Lo (netW ps os) 1300 := ((l1.app (lo_of (l := [(">" : Str)]) 1 (Nat.le_refl _) (by decide +kernel))).app lo).le (by omega)
    refine ⟨⟨_, rfl⟩, .ref L, rfl, L, _, rfl, .inr (SqL.of hL2), ?_⟩
    refine ⟨.ref o, rfl, o, _, rfl, ho.elim (fun z => .inl (sameT s2 z)) (fun z => .inr (s2.seq z)), ?_, fun m hm => ?_⟩
    · show ((psW ps ps.length).map V.str ++ (V.str ">" :: (os.map V.str ++ []))).length ≤ _
      rw [e, List.length_map]
      exact Nat.le_trans lo2.1 (by omega)
    · refine ⟨" ", m, netW ps os, rfl, rfl, .inl (SqL.of ?_), ?_, q _ (s2.trans (same_upd hm _))⟩
      · rw [upd_same]
        show some (HO.lst ((psW ps ps.length).map V.str ++ (V.str ">" :: (os.map V.str ++ [])))) = _
        rw [e]
      · have h1 := lo_sum lo2.2
        have h2 := lo2.1
        have e1 : ((" " : String) : Str).length = 1 := by decide +kernel
        rw [e1]
        omega
theorem IsNm.b {z : Str} (h : IsNm z) : nameB z = true := by
  unfold nameB
  have h1 := h.l1
  have h4 := h.l4
  rw [lowB_of h.low, decide_eq_true (by omega), decide_eq_true (by omega)]
  rfl
def bare (t : Tm) : List Str := [dec t.n, t.a] ++ (if t.d = 0 then [] else [("late" : Str), dec t.d])
def commaW : List Tm → List Str
  | [] => []
  | t :: r => ("," : Str) :: (bare t ++ commaW r)
theorem tmWords_first (t : Tm) : tmWords true t = bare t := rfl
theorem tmWords_later (t : Tm) : tmWords false t = ("," : Str) :: bare t := rfl
theorem tmsW_rest {ts : List Tm} : ∀ (k j : Nat), j + k = ts.length → 1 ≤ j → tmsW ts ts.length = tmsW ts j ++ commaW (ts.drop j)
  | 0, j, h, _ => by
    have e : j = ts.length := by omega
    subst e
    rw [List.drop_length]
    show _ = _ ++ []
    rw [List.append_nil]
  | k + 1, j, h, h1 => by
    have hj : j < ts.length := by omega
    rw [tmsW_rest k (j + 1) (by omega) (by omega), tmsW_succ (List.getElem?_eq_getElem hj), List.drop_eq_getElem_cons hj]
    rw [show (j == 0) = false from by simp; omega, tmWords_later, List.append_assoc]
    rfl
theorem tmsW_cons (t : Tm) (r : List Tm) : tmsW (t :: r) (t :: r).length = bare t ++ commaW r := by
  rw [tmsW_rest (ts := t :: r) r.length 1 (by rw [List.length_cons]; omega) (Nat.le_refl _)]
  rw [tmsW_succ (ts := t :: r) (i := 0) (t := t) rfl]
  rfl
/-- what follows a term -/
theorem after_term (l : List Tm) (R : List Str) : ∃ y R', commaW l ++ (";" : Str) :: R = y :: R' ∧ ¬ y = ("late" : Str) := by
  cases l with
  | nil => exact ⟨";", R, rfl, by decide +kernel⟩
  | cons t r => exact ⟨",", bare t ++ commaW r ++ (";" : Str) :: R, rfl, by decide +kernel⟩
theorem dec_semi {i : Int} (h0 : -99 ≤ i) (h1 : i ≤ 99) : ¬ dec i = (";" : Str) := by
  have all : ∀ k : Fin 199, ¬ dec ((k.val : Int) - 99) = (";" : Str) := by decide +kernel
  have e : i = (((⟨(i + 99).toNat, by omega⟩ : Fin 199).val : Nat) : Int) - 99 := by
    show i = ((i + 99).toNat : Int) - 99
    omega
  rw [e]
  exact all _
def OkP : Pt → Prop
  | .flat k w es => IsNm w ∧ ((k = "source" ∧ es = []) ∨ ((k = "plain" ∨ k = "odd" ∨ k = "keep") ∧ ∃ f e, es = [f, e] ∧ IsNm f ∧ IsNm e) ∨ (k = "pair" ∧ ∃ f e g, es = [f, e, g] ∧ IsNm f ∧ IsNm e ∧ IsNm g))
  | .mix w ts => IsNm w ∧ ts.length ≤ 6 ∧ ∀ t ∈ ts, SmT t ∧ IsNm t.a
  | .use w p es => IsNm w ∧ IsNm p ∧ es.length ≤ 4 ∧ ∀ e ∈ es, IsNm e
theorem PtAt.wr {H : Hp} {D : Addr} {us vs : List V} {v : V} {p : Pt} (hD : H D = some (.lst us)) (h : PtAt H v p) : PtAt (upd H D (.lst vs)) v p :=
  h.tups fun a xs e => by rw [upd_ne (ne_of e hD (by intro z; cases z))]; exact e
def partsW : List Pt → List Str
  | [] => []
  | p :: r => ptW p ++ (";" : Str) :: partsW r
theorem psW_rest {ps : List Pt} : ∀ (k j : Nat), j + k = ps.length → psW ps ps.length = psW ps j ++ partsW (ps.drop j)
  | 0, j, h => by
    have e : j = ps.length := by omega
    subst e
    rw [List.drop_length]
    show _ = _ ++ []
    rw [List.append_nil]
  | k + 1, j, h => by
    have hj : j < ps.length := by omega
    rw [psW_rest k (j + 1) (by omega), psW_succ (List.getElem?_eq_getElem hj), List.drop_eq_getElem_cons hj]
    rw [List.append_assoc]
    show psW ps j ++ (ptW ps[j] ++ [(";" : Str)] ++ partsW (ps.drop (j + 1))) = psW ps j ++ (ptW ps[j] ++ (";" : Str) :: partsW (ps.drop (j + 1)))
    rw [List.append_assoc]
    rfl
theorem netW_eq (ps : List Pt) (os : List Str) : netW ps os = partsW ps ++ (">" : Str) :: os := by
  unfold netW
  rw [psW_rest (ps := ps) ps.length 0 (by omega), List.append_assoc]
  rfl
/-! no blank in a word -/
def NoSp (l : List Str) : Prop := ∀ z ∈ l, 32 ∉ tl z
theorem NoSp.app {l m : List Str} (h : NoSp l) (g : NoSp m) : NoSp (l ++ m) := fun z hz => (List.mem_append.mp hz).elim (h z) (g z)
theorem NoSp.cons {x : Str} {l : List Str} (h : 32 ∉ tl x) (g : NoSp l) : NoSp (x :: l) := fun z hz => (List.mem_cons.mp hz).elim (fun e => by rw [e]; exact h) (g z)
theorem NoSp.nil : NoSp [] := fun z hz => nomatch hz
theorem IsNm.sp {z : Str} (h : IsNm z) : 32 ∉ tl z := fun hz => absurd (h.low 32 hz) (by decide +kernel)
theorem IsNm.gt {z : Str} (h : IsNm z) : ¬ z = (">" : Str) := fun e => by
  rw [e] at h
  exact absurd (h.low 62 (by decide +kernel)) (by decide +kernel)
theorem dec_sp {i : Int} (h0 : -99 ≤ i) (h1 : i ≤ 99) : 32 ∉ tl (dec i) := by
  have all : ∀ k : Fin 199, 32 ∉ tl (dec ((k.val : Int) - 99)) := by decide +kernel
  have e : i = (((⟨(i + 99).toNat, by omega⟩ : Fin 199).val : Nat) : Int) - 99 := by
    show i = ((i + 99).toNat : Int) - 99
    omega
  rw [e]
  exact all _
theorem bare_sp {t : Tm} (h : SmT t) (n : IsNm t.a) : NoSp (bare t) := by
  have d0 := h.d0
  have d1 := h.d1
  unfold bare
  refine NoSp.app (.cons (dec_sp h.n0 h.n1) (.cons n.sp .nil)) ?_
  by_cases e : t.d = 0
  · rw [if_pos e]; exact .nil
  · rw [if_neg e]; exact .cons (by decide +kernel) (.cons (dec_sp (by omega) (by omega)) .nil)
theorem comma_sp : ∀ {ts : List Tm}, (∀ t ∈ ts, SmT t ∧ IsNm t.a) → NoSp (commaW ts)
  | [], _ => .nil
  | t :: r, h => .cons (by decide +kernel) ((bare_sp (h t (List.mem_cons_self ..)).1 (h t (List.mem_cons_self ..)).2).app (comma_sp fun u hu => h u (List.mem_cons_of_mem _ hu)))
theorem tms_sp : ∀ {ts : List Tm}, (∀ t ∈ ts, SmT t ∧ IsNm t.a) → NoSp (tmsW ts ts.length)
  | [], _ => .nil
  | t :: r, h => by
    rw [tmsW_cons]
    exact (bare_sp (h t (List.mem_cons_self ..)).1 (h t (List.mem_cons_self ..)).2).app (comma_sp fun u hu => h u (List.mem_cons_of_mem _ hu))
theorem names_sp {l : List Str} (h : ∀ z ∈ l, IsNm z) : NoSp l := fun z hz => (h z hz).sp
theorem pt_sp : ∀ {p : Pt}, OkP p → NoSp (ptW p)
  | .flat k w es, ⟨nw, h⟩ => by
    show NoSp (w :: k :: es)
    refine .cons nw.sp ?_
    rcases h with ⟨e, rfl⟩ | ⟨e, fn, en, rfl, nf, ne⟩ | ⟨e, fn, en, gn, rfl, nf, ne, ng⟩
    · rw [e]; exact .cons (by decide +kernel) .nil
    · refine .cons ?_ (.cons nf.sp (.cons ne.sp .nil))
      rcases e with e | e | e <;> (rw [e]; decide +kernel)
    · rw [e]; exact .cons (by decide +kernel) (.cons nf.sp (.cons ne.sp (.cons ng.sp .nil)))
  | .mix w ts, ⟨nw, _, h⟩ => .cons nw.sp (.cons (by decide +kernel) (tms_sp h))
  | .use w p es, ⟨nw, np, _, h⟩ => .cons nw.sp (.cons (by decide +kernel) (.cons np.sp (names_sp h)))
theorem parts_sp : ∀ {ps : List Pt}, (∀ p ∈ ps, OkP p) → NoSp (partsW ps)
  | [], _ => .nil
  | p :: r, h => (pt_sp (h p (List.mem_cons_self ..))).app (.cons (by decide +kernel) (parts_sp fun u hu => h u (List.mem_cons_of_mem _ hu)))
theorem pt_head : ∀ {p : Pt}, OkP p → ∃ z R, ptW p = z :: R ∧ IsNm z
  | .flat k w es, ⟨nw, _⟩ => ⟨w, _, rfl, nw⟩
  | .mix w ts, ⟨nw, _⟩ => ⟨w, _, rfl, nw⟩
  | .use w p es, ⟨nw, _⟩ => ⟨w, _, rfl, nw⟩
theorem joinL_len (S : List Nat) : ∀ l : List (List Nat), (joinL S l).length ≤ (l.map List.length).sum + l.length * S.length
  | [] => Nat.zero_le _
  | [p] => by
    show p.length ≤ _
    rw [List.map_cons, List.sum_cons]
    omega
  | p :: q :: r => by
    show (p ++ (S ++ joinL S (q :: r))).length ≤ _
    have ih := joinL_len S (q :: r)
    rw [List.length_append, List.length_append, List.map_cons, List.sum_cons, List.length_cons, Nat.add_mul]
    omega
theorem join_len {l : List Str} {n : Nat} (h : Lo l n) : (Txt.join " " l).length ≤ 11 * n := by
  rw [tlen, join_eq, tl_join]
  have h1 := joinL_len (tl " ") (l.map tl)
  have e1 : (tl ((" " : String) : Str)).length = 1 := by decide +kernel
  have e2 : ((l.map tl).map List.length).sum = (l.map (·.length)).sum := by
    rw [List.map_map]
    congr 1
  have h2 := lo_sum h.2
  have h3 := h.1
  rw [e1, e2, List.length_map] at h1
  omega
theorem split_net {ps : List Pt} {os : List Str} (h : ∀ p ∈ ps, OkP p) (g : ∀ z ∈ os, IsNm z) : Txt.split (Txt.join " " (netW ps os)) " " = partsW ps ++ (">" : Str) :: os := by
  rw [netW_eq]
  refine split_join (s := 32) (S := []) (by decide +kernel) (by decide +kernel) ?_ ((parts_sp h).app (.cons (by decide +kernel) (names_sp g)))
  intro e
  have e2 := congrArg List.length e
  rw [List.length_append, List.length_cons, List.length_nil] at e2
  omega
theorem Same.wd {x : Addr} {H H1 H2 : Hp} (s : Same H H1) (hx : H x = none) (k : Kp x H1 H2) : Same H H2 := fun a o e => k a o (s a o e) (ne_of_none e hx)
/-! ### the law's helpers -/
abbrev sMixed : Stmt := top 68
def spMixed (K : PySem.W.Frag) : Sp := fun vs H Q _ => ∃ (b c a : Addr) (xs : List V), vs = [.ref b, .ref a] ∧ Bag H b c ∧ a ≠ b ∧ SqL K H a xs ∧ xs.length ≤ 1000 ∧
  ∀ (l : Addr) (ys : List V) (H' : Hp), ys.Perm xs → Bag H' b c → Kp b H H' → H l = none → l ≠ b → H' l = some (.lst ys) → Q (.ref l) H'
theorem scMixed : FnScope ["_law_bag_here", "_law_things", "_law_found", "_law_thing"] ["_law_bag_here", "_law_things"] (defScope sMixed) := ⟨rfl, rfl, rfl, by decide +kernel, rfl, by decide +kernel, by decide +kernel⟩
theorem ins_perm {xs ys : List V} {y : V} {i : Nat} (k : Nat) (h : ys.Perm (xs.take i)) (hy : xs[i]? = some y) : (ys.take k ++ [y] ++ ys.drop k).Perm (xs.take (i + 1)) := by
  rw [List.take_add_one, hy]
  have h1 : (ys.take k ++ [y] ++ ys.drop k).Perm (y :: ys) := by
    rw [List.append_assoc]
    have h2 : (ys.take k ++ ([y] ++ ys.drop k)).Perm (y :: (ys.take k ++ ys.drop k)) := List.perm_middle
    rw [List.take_append_drop] at h2
    exact h2
  refine h1.trans ((List.Perm.cons y h).trans ?_)
  show (y :: List.take i xs).Perm (List.take i xs ++ [y])
  exact (List.perm_append_singleton y (List.take i xs)).symm
theorem ok_mixed {f g : Addr} {fd gd : FuncData} (F : Fun K "_law_mixed" "_law_mixed" sMixed f fd) (G : Df P w K mg base 1 g gd "_law_pull" ["_law_bag_here", "_law_many"] spPull) (mlen : mg "len" = none) :
    FnOk P w K mg base CX0 2 f fd ["_law_bag_here", "_law_things"] (spMixed K) := by
  refine F.ok scMixed (fun vs H Q E h => ?_) (fun cdv A outer s H vs Q E hr h => ?_)
  · obtain ⟨b, c, a, xs, rfl, _⟩ := h
    rfl
  obtain ⟨b, c, a, xs, rfl, B, nab, ha, hl, q⟩ := h
  refine ⟨_, pss_cons (ps_set (i := 2) scMixed.nd rfl (Or.inl rfl) (pe_lst pa_nil))
    (pss_cons (ps_for PassesOwn.never rfl (pi_list (pv 1)) (pg_name (i := 3) scMixed.nd rfl (Or.inl rfl))
      (pss_one (ps_expr (pe_bm PySem.F.plainAttrs_list PySem.F.slot_list_insert PySem.F.type_list_insert mt_insert (pv 2) (pa_cons (pe_call G.ok hr (by rfl) G.m G.kp G.b .nil pass0 (pa_cons (pv 0) (pa_cons (pe_op op_add (pe_callB call_len_seq (by rfl) mlen PySem.boot_len (pa_cons (pv 2) pa_nil)) pe_int) pa_nil))) (pa_cons (pv 3) pa_nil))))))
    (pss_one (ps_ret (pv 2)))), ?_⟩
  refine ⟨Nat.zero_le _, fun L hL => ?_⟩
  have nL := B.ne_new hL
  have k0 : Kp b H (upd H L (.lst [])) := (Kp.refl b H).wr hL _
  refine ⟨.ref a, rfl, a, rfl, ⟨_, k0.seqL nab ha⟩, for_list (K := K) (a := a) (xs := xs) (fun i σ H2 => ∃ v3 ys, σ = [some (.ref b), some (.ref a), some (.ref L), v3] ∧ Bag H2 b c ∧ Kp b H H2 ∧ ys.Perm (xs.take i) ∧ H2 L = some (.lst ys))
    ⟨none, [], rfl, B.upd_new hL _, k0, List.Perm.refl _, upd_same⟩ (fun i σ H2 _ ⟨_, _, _, _, k2, _⟩ => k2.seqL nab ha) ?_ ?_⟩
  · rintro i x σ H2 hx ⟨v3, ys, rfl, B2, k2, hp, hL2⟩
    have hi : i < xs.length := (List.getElem?_eq_some_iff.mp hx).1
    have hyl : ys.length = i := by rw [hp.length_eq, List.length_take]; omega
    have h2000 : (2000 : Nat) ≤ sizeLine := by decide
    refine ⟨.ref L, rfl, .inl ⟨rfl, _, SqL.of hL2⟩, .ref b, rfl, .ref L, rfl, L, _, rfl, .inl (SqL.of hL2), _, _, rfl, rfl, b, c, _, rfl, B2, by omega, by omega, fun d H3 d0 d1 B3 k3 => ?_⟩
    refine ⟨x, rfl, L, ys, d, x, rfl, rfl, k3 _ _ hL2 nL.1.symm, by omega, d0, by omega, ?_⟩
    exact ⟨_, _, rfl, B3.wr nL _, (k2.trans k3).wr hL _, ins_perm d.toNat hp hx, upd_same⟩
  · rintro σ H2 ⟨v3, ys, rfl, B2, k2, hp, hL2⟩
    rw [List.take_length] at hp
    exact ⟨.ref L, rfl, q L ys H2 hp B2 k2 hL nL.1.symm hL2⟩
/-- a list of names at a -/
structure NmL (H : Hp) (b a : Addr) (ws : List Str) : Prop where
  ne : a ≠ b
  at_ : H a = some (.lst (ws.map V.str))
  nm : ∀ z ∈ ws, IsNm z
  l : ws.length ≤ 1000
theorem NmL.kp {H H' : Hp} {b a : Addr} {ws : List Str} (h : NmL H b a ws) (k : Kp b H H') : NmL H' b a ws := ⟨h.ne, k _ _ h.at_ h.ne, h.nm, h.l⟩
theorem NmL.menu {H : Hp} {b a : Addr} {ws : List Str} (h : NmL H b a ws) : Menu K H b (.ref a) (ws.map V.str) := .inl ⟨a, rfl, h.ne, SqL.of h.at_⟩
theorem IsNm.ok {z : Str} (h : IsNm z) : PyData.strOk z = true := by
  have all : ∀ c ∈ letters.cps.toList, c < 0x110000 := by decide +kernel
  unfold PyData.strOk
  rw [← Array.all_toList, List.all_eq_true]
  intro c hc
  exact decide_eq_true (all c (h.low c hc))
theorem dpAll_strs {H : Hp} : ∀ ws : List Str, DpAll K H (ws.map V.str) (ws.map PyData.str)
  | [] => .nil
  | x :: r => .cons (.str x) (dpAll_strs r)
theorem shaped_strs {ws : List Str} (h : ∀ z ∈ ws, IsNm z) : SeqAt.shaped (.list (ws.map PyData.str)) = true := by
  have lay : ∀ ws : List Str, (∀ z ∈ ws, IsNm z) → PyData.canLayAll0 (ws.map PyData.str) = true ∧ PyData.depthAll (ws.map PyData.str) = 0 := by
    intro ws
    induction ws with
    | nil => intro _; exact ⟨rfl, rfl⟩
    | cons x r ih =>
      intro h
      obtain ⟨h1, h2⟩ := ih fun z hz => h z (List.mem_cons_of_mem _ hz)
      refine ⟨?_, ?_⟩
      · show (PyData.strOk x && PyData.canLayAll0 (r.map PyData.str)) = true
        rw [(h x (List.mem_cons_self ..)).ok, h1]
        rfl
      · show max 0 (PyData.depthAll (r.map PyData.str)) = 0
        rw [h2]
        rfl
  obtain ⟨h1, h2⟩ := lay ws h
  show (PyData.canLayAll0 (ws.map PyData.str) && decide (PyData.depthAll (ws.map PyData.str) + 1 ≤ 64)) = true
  rw [h1, h2]
  rfl
theorem any_nm {H : Hp} {b c u : Addr} {us : List Str} {Q : VK} (B : Bag H b c) (hu : NmL H b u us) (h0 : 0 < us.length) (q : ∀ (a : Str) (H' : Hp), IsNm a → Bag H' b c → Kp b H H' → Q (.str a) H') : spAny K [.ref b, .ref u] H Q E0 :=
  ⟨b, c, .ref u, us.map V.str, rfl, B, hu.menu, by rw [List.length_map]; exact h0, by rw [List.length_map]; have := hu.l; omega, fun y H4 hy B4 k4 => by
    obtain ⟨a, ha, rfl⟩ := List.mem_map.mp hy
    exact q a H4 (hu.nm a ha) B4 k4⟩
def spTerm : Sp := fun vs H Q _ => ∃ (b c e v : Addr) (es ws : List Str), vs = [.ref b, .ref e, .ref v] ∧ Bag H b c ∧ NmL H b e es ∧ NmL H b v ws ∧ 0 < ws.length ∧
  ∀ (x : V) (t : Tm) (H' : Hp), TmAt H' x t → SmT t → IsNm t.a → Bag H' b c → Kp b H H' → Q x H'
abbrev sUse : Stmt := top 35
abbrev kinds4 : List Str := ["plain", "odd", "keep", "pair"]
def BxAt (H : Hp) (v : V) (p : Str × Str) : Prop := ∃ t, v = .ref t ∧ H t = some (.tup [.str p.1, .str p.2])
theorem BxAt.tups {H H' : Hp} (s : Tups H H') {v : V} {p : Str × Str} (h : BxAt H v p) : BxAt H' v p := by
  obtain ⟨t, e, h⟩ := h
  exact ⟨t, e, s _ _ h⟩
/-- a list of pairs of a kind and a name at a -/
structure BxL (H : Hp) (b a : Addr) (bs : List V) (fs : List (Str × Str)) : Prop where
  ne : a ≠ b
  at_ : H a = some (.lst bs)
  all : All2 (BxAt H) bs fs
  ok : ∀ p ∈ fs, p.1 ∈ kinds4 ∧ IsNm p.2
  l : fs.length ≤ 1000
theorem BxL.kp {H H' : Hp} {b c a : Addr} {bs : List V} {fs : List (Str × Str)} (h : BxL H b a bs fs) (B : Bag H b c) (k : Kp b H H') : BxL H' b a bs fs :=
  ⟨h.ne, k _ _ h.at_ h.ne, h.all.mono fun _ _ z => z.tups (k.tups B), h.ok, h.l⟩
def spBoxes : Sp := fun vs H Q _ => ∃ (b c a : Addr) (ws : List Str), vs = [.ref b, .ref a] ∧ Bag H b c ∧ NmL H b a ws ∧
  ∀ (x : Addr) (bs : List V) (fs : List (Str × Str)) (H' : Hp), BxL H' b x bs fs → fs.length = ws.length → Bag H' b c → Kp b H H' → H x = none → Q (.ref x) H'
theorem All2.tail {α β : Type} {R : α → β → Prop} {x : α} {y : β} {xs : List α} {ys : List β} (h : All2 R (x :: xs) (y :: ys)) : R x y ∧ All2 R xs ys :=
  ⟨h.2 0 x y rfl rfl, Nat.succ.inj h.1, fun i u v hu hv => h.2 (i + 1) u v hu hv⟩
abbrev bxD (p : Str × Str) : PyData := .tuple [.str p.1, .str p.2]
theorem dpAll_bx {H : Hp} : ∀ {bs : List V} {fs : List (Str × Str)}, All2 (BxAt H) bs fs → DpAll K H bs (fs.map bxD)
  | [], [], _ => .nil
  | [], _ :: _, h => absurd h.1 (by simp)
  | _ :: _, [], h => absurd h.1 (by simp)
  | v :: bs, p :: fs, h => by
    obtain ⟨⟨t, rfl, ht⟩, h2⟩ := h.tail
    exact .cons (.tup (SqT.of ht) (.cons (.str _) (.cons (.str _) .nil))) (dpAll_bx h2)
theorem kinds_ok {k : Str} (h : k ∈ kinds4) : PyData.strOk k = true ∧ ¬ k = "mix" ∧ ¬ k = "use" ∧ k.length ≤ 10 := by
  have all : ∀ k ∈ kinds4, PyData.strOk k = true ∧ ¬ k = "mix" ∧ ¬ k = "use" ∧ k.length ≤ 10 := by decide +kernel
  exact all k h
theorem shaped_bx {fs : List (Str × Str)} (h : ∀ p ∈ fs, p.1 ∈ kinds4 ∧ IsNm p.2) : SeqAt.shaped (.list (fs.map bxD)) = true := by
  have lay : ∀ fs : List (Str × Str), (∀ p ∈ fs, p.1 ∈ kinds4 ∧ IsNm p.2) → PyData.canLayAll0 (fs.map bxD) = true ∧ PyData.depthAll (fs.map bxD) ≤ 1 := by
    intro fs
    induction fs with
    | nil => intro _; exact ⟨rfl, Nat.zero_le _⟩
    | cons x r ih =>
      intro h
      obtain ⟨h1, h2⟩ := ih fun z hz => h z (List.mem_cons_of_mem _ hz)
      obtain ⟨g1, g2⟩ := h x (List.mem_cons_self ..)
      refine ⟨?_, ?_⟩
      · show ((PyData.strOk x.1 && (PyData.strOk x.2 && true)) && PyData.canLayAll0 (r.map bxD)) = true
        rw [(kinds_ok g1).1, g2.ok, h1]
        rfl
      · show max (max 0 (max 0 0) + 1) (PyData.depthAll (r.map bxD)) ≤ 1
        omega
  obtain ⟨h1, h2⟩ := lay fs h
  show (PyData.canLayAll0 (fs.map bxD) && decide (PyData.depthAll (fs.map bxD) + 1 ≤ 64)) = true
  rw [h1, decide_eq_true (by omega)]
  rfl
theorem flat_ok {kd f : Str} {ds : List Str} (g1 : kd ∈ kinds4) (g2 : IsNm f) (dn : ∀ z ∈ ds, IsNm z) (h : (kd = "pair" ∧ ds.length = 2) ∨ (¬ kd = "pair" ∧ ds.length = 1)) :
    (kd = "source" ∧ f :: ds = []) ∨ ((kd = "plain" ∨ kd = "odd" ∨ kd = "keep") ∧ ∃ x e, f :: ds = [x, e] ∧ IsNm x ∧ IsNm e) ∨ (kd = "pair" ∧ ∃ x e g, f :: ds = [x, e, g] ∧ IsNm x ∧ IsNm e ∧ IsNm g) := by
  rcases h with ⟨e, l⟩ | ⟨e, l⟩
  · match ds, l with
    | [a, b], _ => exact .inr (.inr ⟨e, f, a, b, rfl, g2, dn a (by simp), dn b (by simp)⟩)
  · match ds, l with
    | [a], _ =>
      refine .inr (.inl ⟨?_, f, a, rfl, g2, dn a (by simp)⟩)
      rcases List.mem_cons.mp g1 with h | g1
      · exact .inl h
      rcases List.mem_cons.mp g1 with h | g1
      · exact .inr (.inl h)
      rcases List.mem_cons.mp g1 with h | g1
      · exact .inr (.inr h)
      · exact absurd (List.mem_singleton.mp g1) e
def Pw : Pt → Str
  | .flat _ w _ => w
  | .mix w _ => w
  | .use w _ _ => w
abbrev partN : List Str := ["_law_bag_here", "_law_wire", "_law_earlier", "_law_every", "_law_boxes_here", "_law_kind", "_law_name", "_law_ends", "_law_k"]
abbrev partP : List Str := ["_law_bag_here", "_law_wire", "_law_earlier", "_law_every", "_law_boxes_here"]
def PairL (kd : Str) (n : Nat) : Prop := n ≤ 2 ∧ ((kd = "pair" ∧ n = 2) ∨ (¬ kd = "pair" ∧ n = 1))
def spPart : Sp := fun vs H Q _ => ∃ (b c e v x : Addr) (wire : Str) (es ws : List Str) (bs : List V) (fs : List (Str × Str)), vs = [.ref b, .str wire, .ref e, .ref v, .ref x] ∧ Bag H b c ∧ IsNm wire ∧ NmL H b e es ∧ NmL H b v ws ∧ 0 < ws.length ∧ BxL H b x bs fs ∧
  ∀ (y : V) (p : Pt) (H' : Hp), PtAt H' y p → SmP p → OkP p → Pw p = wire → Bag H' b c → Kp b H H' → Q y H'
theorem cut_to {ws : List Str} {k : Int} (h : 0 ≤ k) : cutV (ws.map V.str) none (some k) = (ws.take k.toNat).map V.str := by
  obtain ⟨n, rfl⟩ : ∃ n : Nat, k = (n : Int) := ⟨k.toNat, by omega⟩
  unfold cutV
  rw [HT.sIx_none, HT.sIx_nat, List.drop_zero, Nat.sub_zero, Int.toNat_natCast, List.length_map, List.map_take, List.take_eq_take_iff]
  rw [List.length_map]
  omega
theorem NmL.take {H : Hp} {b a : Addr} {ws : List Str} (h : NmL H b a ws) {m : Addr} (n : Nat) (ne : m ≠ b) (hm : H m = some (.lst ((ws.take n).map V.str))) : NmL H b m (ws.take n) :=
  ⟨ne, hm, fun z hz => h.nm z (List.mem_of_mem_take hz), by rw [List.length_take]; have := h.l; omega⟩
abbrev partsN : List Str := ["_law_bag_here", "_law_wires", "_law_sources", "_law_boxes_here", "_law_found", "_law_k", "_law_wire"]
abbrev partsP : List Str := ["_law_bag_here", "_law_wires", "_law_sources", "_law_boxes_here"]
def spParts : Sp := fun vs H Q _ => ∃ (b c a x : Addr) (k : Int) (ws : List Str) (bs : List V) (fs : List (Str × Str)), vs = [.ref b, .ref a, .int k, .ref x] ∧ Bag H b c ∧ NmL H b a ws ∧ 0 ≤ k ∧ k ≤ 100 ∧ BxL H b x bs fs ∧
  ∀ (l : Addr) (us : List V) (ps : List Pt) (H' : Hp), l ≠ b → H' l = some (.lst us) → All2 (PtAt H') us ps → (∀ p ∈ ps, (SmP p ∧ OkP p) ∧ IsNm (Pw p)) → ps.length = ws.length → Bag H' b c → Kp b H H' → Q (.ref l) H'
end
end Un
namespace Un
open PySem L2 TL
section
variable {P : Program} {w : World} {K : PySem.W.Frag} {mg : Str → Option Value} {base : Heap}
/-! ### parts -/
abbrev sIsKind : Stmt := top 38
abbrev sIsTerm : Stmt := top 39
abbrev sAreTerms : Stmt := top 40
abbrev sAreEnds : Stmt := top 41
abbrev sIsPart : Stmt := top 42
abbrev sWiresIn : Stmt := top 43
abbrev sLeadsOf : Stmt := top 44
/-- what the top holds for the functions of parts -/
structure PartTxt (K : PySem.W.Frag) (w : World) (mg : Str → Option Value) : Prop where
  isi : mg "isinstance" = none
  str : mg "str" = none
  tuple : mg "tuple" = none
  list : mg "list" = none
  len : mg "len" = none
  all : mg "all" = none
  fac : ∃ t, mg "MOST_FACTOR" = some (.int 99 t)
  del : ∃ t, mg "MOST_DELAY" = some (.int 4 t)
  terms : ∃ t, mg "MOST_TERMS" = some (.int 6 t)
  ends : ∃ (d : Addr) (es : Array DictEntry) (n : Nat), mg "ENDS" = some (.ref d) ∧ KDict K w d es n ∧ (∀ z, z ∈ kinds4 → ∃ t, PySem.W.nsIn K d z = some (some (.int (if z = "pair" then 2 else 1) t))) ∧ ∀ z : Str, z = "source" ∨ z = "mix" ∨ z = "use" → PySem.W.nsIn K d z = some none
def spIsKind : Sp := fun vs H Q _ => ∃ z : Str, vs = [.str z] ∧ z ∈ kinds4 ∧ Q (.bl true) H
theorem scIsKind : FnScope ["value"] ["value"] (defScope sIsKind) := ⟨rfl, rfl, rfl, by decide +kernel, rfl, by decide +kernel, by decide +kernel⟩
theorem ok_isKind {f : Addr} {fd : FuncData} (F : Fun K "is_kind" "is_kind" sIsKind f fd) (T : PartTxt K w mg) : FnOk P w K mg base CX0 1 f fd ["value"] spIsKind := by
  refine F.ok scIsKind (fun vs H Q E h => ?_) (fun cdv A outer s H vs Q E hr h => ?_)
  · obtain ⟨z, rfl, _⟩ := h
    rfl
  obtain ⟨z, rfl, hz, q⟩ := h
  obtain ⟨d, es, n, mends, D, e4, _⟩ := T.ends
  obtain ⟨t, et⟩ := e4 z hz
  refine ⟨_, (pss_one (ps_ret (pe_and (pe_callB call_isi (by rfl) T.isi (by decide +kernel) (pa_cons (pv 0) (pa_cons (pe_bltn (v := .ty "str") (by rfl) T.str (by decide +kernel) rfl) pa_nil))) (pe_one (pe_cmpR (op_in_kd D) (pv 0) (pe_glob (v := .ref d) (by rfl) mends rfl) (by rfl)))))), ?_⟩
  refine ⟨_, rfl, _, _, _, _, true, rfl, .ty _, (.base (.str z)), kit_ty (by decide +kernel), _, rfl, iteT ?_⟩
  exact ⟨_, rfl, z, _, rfl, rfl, et, q⟩
def spIsTerm : Sp := fun vs H Q _ => ∃ (x : V) (t : Tm), vs = [x] ∧ TmAt H x t ∧ SmT t ∧ IsNm t.a ∧ ∀ H', Same H H' → Q (.bl true) H'
theorem scIsTerm : FnScope ["value", "factor", "delay", "wire"] ["value"] (defScope sIsTerm) := ⟨rfl, rfl, rfl, by decide +kernel, rfl, by decide +kernel, by decide +kernel⟩
theorem ok_isTerm {f fn fm : Addr} {fd dn dm : FuncData} (F : Fun K "is_term" "is_term" sIsTerm f fd) (T : PartTxt K w mg) (GN : Df P w K mg base 2 fn dn "is_number" ["value", "least", "most"] (spNumber K)) (GM : Df P w K mg base 1 fm dm "is_name" ["value"] (spName K)) : FnOk P w K mg base CX0 3 f fd ["value"] spIsTerm := by
  refine F.ok scIsTerm (fun vs H Q E h => ?_) (fun cdv A outer s H vs Q E hr h => ?_)
  · obtain ⟨x, t, rfl, _⟩ := h
    rfl
  obtain ⟨x, t, rfl, ⟨a, rfl, ha⟩, st, nm, q⟩ := h
  obtain ⟨tf, mfac⟩ := T.fac
  obtain ⟨td, mdel⟩ := T.del
  refine ⟨_, (pss_cons (ps_if (PW.pt (pw_or (pt_not (pt_val (pe_callB call_isi (by rfl) T.isi (by decide +kernel) (pa_cons (pv 0) (pa_cons (pe_bltn (v := .ty "tuple") (by rfl) T.tuple (by decide +kernel) rfl) pa_nil))))) (pw_or1 (pt_cmpR op_ne (pe_callB call_len_seq (by rfl) T.len PySem.boot_len (pa_cons (pv 0) pa_nil)) pe_int (nomark _)))))
 (pss_one (ps_ret pe_bl))
 pss_nil)
 (pss_cons (ps_asg (pv 0) (pg_tup (by rfl) (pgs_cons (pg_name (i := 1) scIsTerm.nd rfl (by first | exact Or.inl rfl | exact Or.inr rfl)) (pgs_cons (pg_name (i := 2) scIsTerm.nd rfl (by first | exact Or.inl rfl | exact Or.inr rfl)) (pgs_cons (pg_name (i := 3) scIsTerm.nd rfl (by first | exact Or.inl rfl | exact Or.inr rfl)) pgs_nil)))))
 (pss_one (ps_ret (pe_and (pe_call GN.ok (hr.mono (by decide)) (by rfl) GN.m GN.kp GN.b .nil pass0 (pa_cons (pv 1) (pa_cons (pe_un un_neg (pe_glob (v := .int 99) (by rfl) mfac ⟨_, rfl⟩)) (pa_cons (pe_glob (v := .int 99) (by rfl) mfac ⟨_, rfl⟩) pa_nil)))) (pe_and (pe_call GN.ok (hr.mono (by decide)) (by rfl) GN.m GN.kp GN.b .nil pass0 (pa_cons (pv 2) (pa_cons pe_int (pa_cons (pe_glob (v := .int 4) (by rfl) mdel ⟨_, rfl⟩) pa_nil)))) (pe_one (pe_call GM.ok (hr.mono (by decide)) (by rfl) GM.m GM.kp GM.b .nil pass0 (pa_cons (pv 3) pa_nil))))))))), ?_⟩
  refine ⟨_, rfl, _, _, _, _, true, rfl, .ty _, (.base (.tup ha)), kit_ty (by decide +kernel), _, rfl, iteF ?_⟩
  refine ⟨_, rfl, a, _, rfl, .inr (SqT.of ha), rfl, _, rfl, iteF ?_⟩
  refine ⟨_, rfl, a, _, rfl, SqT.of ha, rfl, _, _, rfl, _, _, rfl, _, _, rfl, rfl, ?_⟩
  refine ⟨_, rfl, 99, rfl, _, _, _, rfl, .inl ⟨_, rfl, ?_⟩⟩
  rw [decide_eq_true st.n0, decide_eq_true st.n1]
  refine ⟨_, rfl, iteT ?_⟩
  refine ⟨_, rfl, _, _, _, rfl, .inl ⟨_, rfl, ?_⟩⟩
  rw [decide_eq_true st.d0, decide_eq_true st.d1]
  refine ⟨_, rfl, iteT ?_⟩
  refine ⟨_, rfl, _, rfl, .inl ⟨_, rfl, by have := nm.l4; omega, fun H1 s1 => ?_⟩⟩
  rw [nm.b]
  exact q H1 s1
def spAreTerms : Sp := fun vs H Q _ => ∃ (b : Addr) (us : List V) (ts : List Tm), vs = [.ref b] ∧ H b = some (.tup us) ∧ All2 (TmAt H) us ts ∧ ts.length ≤ 6 ∧ (∀ t ∈ ts, SmT t ∧ IsNm t.a) ∧ ∀ H', Same H H' → Q (.bl true) H'
theorem scAreTerms : FnScope ["value", "item"] ["value"] (defScope sAreTerms) := ⟨rfl, rfl, rfl, by decide +kernel, rfl, by decide +kernel, by decide +kernel⟩
theorem ok_areTerms {f ft : Addr} {fd dt : FuncData} (F : Fun K "are_terms" "are_terms" sAreTerms f fd) (T : PartTxt K w mg) (GT : Df P w K mg base 3 ft dt "is_term" ["value"] spIsTerm) : FnOk P w K mg base CX0 4 f fd ["value"] spAreTerms := by
  refine F.ok scAreTerms (fun vs H Q E h => ?_) (fun cdv A outer s H vs Q E hr h => ?_)
  · obtain ⟨b, us, ts, rfl, _⟩ := h
    rfl
  obtain ⟨b, us, ts, rfl, hb, hA, hl, hts, q⟩ := h
  obtain ⟨tm, mterms⟩ := T.terms
  refine ⟨_, (pss_one (ps_ret (pe_and (pe_callB call_isi (by rfl) T.isi (by decide +kernel) (pa_cons (pv 0) (pa_cons (pe_bltn (v := .ty "tuple") (by rfl) T.tuple (by decide +kernel) rfl) pa_nil))) (pe_and (pe_cmpR op_le (pe_callB call_len_seq (by rfl) T.len PySem.boot_len (pa_cons (pv 0) pa_nil)) (pe_glob (v := .int 6) (by rfl) mterms ⟨_, rfl⟩) (nomark _)) (pe_one (pe_callB (cr_all rfl) (by rfl) T.all (by decide +kernel) (pa_cons (pe_lc (own := [("item", 1)]) (g := (gName 1)) rfl scAreTerms.nd (pi_tup (pv 0)) (blkOk_by (own := [("item", 1)]) (N := ["value", "item"]) (sc := defScope sAreTerms) (by decide +kernel)) (fun _ _ _ _ _ => (pg_name (i := 1) scAreTerms.nd rfl (Or.inl rfl) (Or.inr rfl))) (fun _ _ _ _ _ => pts_nil) (fun _ _ _ _ _ => (pe_call GT.ok (hr.mono (by decide)) (by rfl) GT.m GT.kp GT.b .nil pass0 (pa_cons (pv 1) pa_nil)))) pa_nil))))))), ?_⟩
  refine ⟨_, rfl, _, _, _, _, true, rfl, .ty _, (.base (.tup hb)), kit_ty (by decide +kernel), _, rfl, iteT ?_⟩
  refine ⟨_, rfl, b, _, rfl, .inr (SqT.of hb), _, _, rfl, rfl, _, rfl, ?_⟩
  rw [show decide (((us.length : Nat) : Int) ≤ 6) = true from decide_eq_true (by rw [hA.1]; omega)]
  refine iteT ?_
  refine ⟨_, rfl, b, rfl, ⟨_, SqT.of hb⟩, fun D hD => ?_⟩
  have s1 := same_upd hD (.lst [])
  refine lc_tup (xs := us) (fun i H2 => Same H H2 ∧ H2 D = some (.lst (List.replicate i (.bl true)))) ⟨s1, upd_same⟩ (fun i H2 _ h => SqT.of (h.1 _ _ hb)) (fun i x H2 hx ⟨s2, hD2⟩ => ?_) (fun H2 ⟨s2, hD2⟩ => ?_)
  · have hi : i < us.length := (List.getElem?_eq_some_iff.mp hx).1
    obtain ⟨t, ht⟩ : ∃ t, ts[i]? = some t := ⟨ts[i]'(by rw [← hA.1]; exact hi), List.getElem?_eq_getElem _⟩
    have hm := List.mem_of_getElem? ht
    refine ⟨rfl, _, rfl, x, t, rfl, (hA.2 i x t hx ht).tups (Same.tups s2), (hts t hm).1, (hts t hm).2, fun H3 s3 => ?_⟩
    refine ⟨_, s3 _ _ hD2, ?_, fun c o hc => ?_, ?_⟩
    · rw [List.length_replicate]
      exact small1000 (by have := hA.1; omega)
    · rw [upd_ne (ne_of_none hc hD)]
      exact s3 _ _ (s2 _ _ hc)
    · rw [upd_same, ← List.replicate_succ']
  · refine ⟨D, List.replicate us.length true, rfl, SqL.of (by rw [hD2, List.map_replicate]), ?_⟩
    rw [all_true]
    exact q H2 s2
end
end Un
namespace Un
open PySem L2 TL
section
variable {P : Program} {w : World} {K : PySem.W.Frag} {mg : Str → Option Value} {base : Heap}
def notUse : Pt → Prop
  | .use _ _ _ => False
  | _ => True
def spIsPart : Sp := fun vs H Q _ => ∃ (x : V) (p : Pt), vs = [x] ∧ PtAt H x p ∧ OkP p ∧ SmP p ∧ notUse p ∧ ∀ H', Same H H' → Q (.bl true) H'
theorem scIsPart : FnScope ["value", "kind", "_", "items", "item"] ["value"] (defScope sIsPart) := ⟨rfl, rfl, rfl, by decide +kernel, rfl, by decide +kernel, by decide +kernel⟩
theorem nm_len {z : Str} (h : IsNm z) : z.length ≤ 1000 := by
  have := h.l4
  omega
theorem ok_isPart {f fm fa fk : Addr} {fd dm da dk : FuncData} (F : Fun K "is_part" "is_part" sIsPart f fd) (T : PartTxt K w mg) (GM : Df P w K mg base 1 fm dm "is_name" ["value"] (spName K)) (GA : Df P w K mg base 4 fa da "are_terms" ["value"] spAreTerms) (GK : Df P w K mg base 1 fk dk "is_kind" ["value"] spIsKind) :
    FnOk P w K mg base CX0 5 f fd ["value"] spIsPart := by
  refine F.ok scIsPart (fun vs H Q E h => ?_) (fun cdv A outer s H vs Q E hr h => ?_)
  · obtain ⟨x, p, rfl, _⟩ := h
    rfl
  obtain ⟨x, p, rfl, hp, ok, sm, nu, q⟩ := h
  obtain ⟨d, es, n, mends, D, e4, _⟩ := T.ends
  refine ⟨_, (pss_cons (ps_if (PW.pt (pw_or (pt_not (pt_val (pe_callB call_isi (by rfl) T.isi (by decide +kernel) (pa_cons (pv 0) (pa_cons (pe_bltn (v := .ty "tuple") (by rfl) T.tuple (by decide +kernel) rfl) pa_nil))))) (pw_or (pt_cmpR op_lt (pe_callB call_len_seq (by rfl) T.len PySem.boot_len (pa_cons (pv 0) pa_nil)) pe_int (nomark _)) (pw_or1 (pt_not (pt_val (pe_call GM.ok (hr.mono (by decide)) (by rfl) GM.m GM.kp GM.b .nil pass0 (pa_cons (pe_ix ix_tup (pv 0) pe_int (fun _ _ => rfl)) pa_nil))))))))
 (pss_one (ps_ret pe_bl))
 pss_nil)
 (pss_cons (ps_asg (pv 0) (pg_star (n := 2) rfl (pgs_cons (pg_name (i := 1) scIsPart.nd rfl (by first | exact Or.inl rfl | exact Or.inr rfl)) (pgs_cons (pg_name (i := 2) scIsPart.nd rfl (by first | exact Or.inl rfl | exact Or.inr rfl)) (pgs_star (pg_name (i := 3) scIsPart.nd rfl (by first | exact Or.inl rfl | exact Or.inr rfl)))))))
 (pss_cons (ps_if (pt_cmpR op_eq (pv 1) pe_str (nomark _))
 (pss_one (ps_ret (pe_notT (pv 3))))
 pss_nil)
 (pss_cons (ps_if (pt_cmpR op_eq (pv 1) pe_str (nomark _))
 (pss_one (ps_ret (pe_and (pe_cmpR op_eq (pe_callB call_len_seq (by rfl) T.len PySem.boot_len (pa_cons (pv 3) pa_nil)) pe_int (nomark _)) (pe_one (pe_call GA.ok (hr.mono (by decide)) (by rfl) GA.m GA.kp GA.b .nil pass0 (pa_cons (pe_ix ix_list (pv 3) pe_int (fun _ _ => rfl)) pa_nil))))))
 pss_nil)
 (pss_cons (ps_if (pt_cmpR op_eq (pv 1) pe_str (nomark _))
 pss_never
 pss_nil)
 (pss_one (ps_ret (pe_and (pe_call GK.ok (hr.mono (by decide)) (by rfl) GK.m GK.kp GK.b .nil pass0 (pa_cons (pv 1) pa_nil)) (pe_and (pe_cmpR op_eq (pe_callB call_len_seq (by rfl) T.len PySem.boot_len (pa_cons (pv 3) pa_nil)) (pe_op op_add pe_int (pe_ix ix_kdict (pe_glob (v := .ref d) (by rfl) mends rfl) (pv 1) (fun _ _ => rfl))) (nomark _)) (pe_one (pe_callB (cr_all rfl) (by rfl) T.all (by decide +kernel) (pa_cons (pe_lc (own := [("item", 4)]) (g := (gName 4)) rfl scIsPart.nd (pi_list (pv 3)) (blkOk_by (own := [("item", 4)]) (N := ["value", "kind", "_", "items", "item"]) (sc := defScope sIsPart) (by decide +kernel)) (fun _ _ _ _ _ => (pg_name (i := 4) scIsPart.nd rfl (Or.inl rfl) (Or.inr rfl))) (fun _ _ _ _ _ => pts_nil) (fun _ _ _ _ _ => (pe_call GM.ok (hr.mono (by decide)) (by rfl) GM.m GM.kp GM.b .nil pass0 (pa_cons (pv 4) pa_nil)))) pa_nil)))))))))))), ?_⟩
  cases p with
  | use w p es => exact False.elim nu
  | mix wr ts =>
    obtain ⟨a, b, us, rfl, ha, hb, hA⟩ := hp
    obtain ⟨hw, hl, ht⟩ := ok
    refine ⟨_, rfl, _, _, _, _, true, rfl, .ty _, (.base (.tup ha)), kit_ty (by decide +kernel), _, rfl, iteF ?_⟩
    refine ⟨_, rfl, a, _, rfl, .inr (SqT.of ha), _, _, rfl, rfl, _, rfl, iteF ?_⟩
    refine ⟨_, rfl, a, _, 1, _, rfl, rfl, SqT.of ha, rfl, _, rfl, .inl ⟨_, rfl, nm_len hw, fun H1 s1 => ?_⟩⟩
    rw [hw.b]
    refine ⟨_, rfl, iteF ?_⟩
    have ha1 := s1 _ _ ha
    refine ⟨_, rfl, a, _, rfl, SqT.of ha1, (by show 2 ≤ 3; decide), fun p hp0 => ?_⟩
    have s2 := s1.trans (same_upd hp0 (.lst [.ref b]))
    refine ⟨_, _, rfl, _, _, rfl, _, _, rfl, rfl, ?_⟩
    refine ⟨_, rfl, rfl, _, rfl, iteF ?_⟩
    refine ⟨_, rfl, rfl, _, rfl, iteT ?_⟩
    refine ⟨_, rfl, p, [.ref b], rfl, .inl (SqL.of upd_same), rfl, _, rfl, iteT ?_⟩
    refine ⟨_, rfl, p, [.ref b], 0, .ref b, rfl, rfl, SqL.of upd_same, rfl, b, us, ts, rfl, s2 _ _ hb, hA.mono fun _ _ z => z.tups (Same.tups s2), hl, ht, fun H3 s3 => ?_⟩
    exact q H3 (s2.trans s3)
  | flat k wr ns =>
    obtain ⟨a, rfl, ha⟩ := hp
    obtain ⟨hw, hk⟩ := ok
    obtain ⟨n1, n2, _⟩ := sm
    refine ⟨_, rfl, _, _, _, _, true, rfl, .ty _, (.base (.tup ha)), kit_ty (by decide +kernel), _, rfl, iteF ?_⟩
    refine ⟨_, rfl, a, _, rfl, .inr (SqT.of ha), _, _, rfl, rfl, _, rfl, ?_⟩
    rw [show decide (((V.str k :: V.str wr :: ns.map V.str).length : Int) < 2) = false from decide_eq_false (by rw [List.length_cons, List.length_cons]; omega)]
    refine iteF ?_
    refine ⟨_, rfl, a, _, 1, _, rfl, rfl, SqT.of ha, atI_nat (j := 1) rfl, _, rfl, .inl ⟨_, rfl, nm_len hw, fun H1 s1 => ?_⟩⟩
    rw [hw.b]
    refine ⟨_, rfl, iteF ?_⟩
    have ha1 := s1 _ _ ha
    refine ⟨_, rfl, a, _, rfl, SqT.of ha1, (by show 2 ≤ _ + 2; omega), fun p hp0 => ?_⟩
    have s2 := s1.trans (same_upd hp0 (.lst (ns.map V.str)))
    have hl : upd H1 p (.lst (ns.map V.str)) p = some (.lst (ns.map V.str)) := upd_same
    refine ⟨_, _, rfl, _, _, rfl, _, _, rfl, rfl, ?_⟩
    refine ⟨_, rfl, rfl, _, rfl, ?_⟩
    rcases hk with ⟨rfl, rfl⟩ | hk
    · refine iteT ?_
      exact ⟨_, rfl, _, .inl ⟨[], SqL.of hl, rfl⟩, q _ s2⟩
    have kns : ¬ k = "source" := by
      rcases hk with ⟨rfl | rfl | rfl, _⟩ | ⟨rfl, _⟩ <;> decide
    rw [decide_eq_false (fun e => kns (V.str.inj e))]
    refine iteF ?_
    refine ⟨_, rfl, rfl, _, rfl, ?_⟩
    rw [decide_eq_false (fun e => n1 (V.str.inj e))]
    refine iteF ?_
    refine ⟨_, rfl, rfl, _, rfl, ?_⟩
    rw [decide_eq_false (fun e => n2 (V.str.inj e))]
    refine iteF ?_
    have k4 : k ∈ kinds4 := by
      rcases hk with ⟨rfl | rfl | rfl, _⟩ | ⟨rfl, _⟩ <;> decide
    obtain ⟨te, ete⟩ := e4 k k4
    refine ⟨_, rfl, k, rfl, k4, _, rfl, iteT ?_⟩
    have hlen : ns.length = (if k = "pair" then 3 else 2) ∧ ∀ z ∈ ns, IsNm z := by
      rcases hk with ⟨hk, f, e, rfl, h1, h2⟩ | ⟨rfl, f, e, g, rfl, h1, h2, h3⟩
      · refine ⟨?_, fun z hz => ?_⟩
        · rw [if_neg (by rcases hk with rfl | rfl | rfl <;> decide)]
          rfl
        · simp only [List.mem_cons, List.not_mem_nil, or_false] at hz
          rcases hz with rfl | rfl
          · exact h1
          · exact h2
      · refine ⟨by rw [if_pos rfl]; rfl, fun z hz => ?_⟩
        simp only [List.mem_cons, List.not_mem_nil, or_false] at hz
        rcases hz with rfl | rfl | rfl
        · exact h1
        · exact h2
        · exact h3
    refine ⟨_, rfl, p, _, rfl, .inl (SqL.of hl), _, rfl, d, k, .int (if k = "pair" then 2 else 1), rfl, rfl, ⟨es, n, _, D.at_, D.lit, ete, ⟨_, rfl⟩⟩, 1, _, rfl, rfl, rfl, _, rfl, ?_⟩
    rw [show decide (V.int ((ns.map V.str).length : Nat) = V.int (1 + if k = "pair" then 2 else 1)) = true from decide_eq_true (by
      rw [List.length_map, hlen.1]
      by_cases e : k = "pair"
      · rw [if_pos e, if_pos e]
        rfl
      · rw [if_neg e, if_neg e]
        rfl)]
    refine iteT ?_
    refine ⟨_, rfl, p, rfl, ⟨_, SqL.of hl⟩, fun L hL => ?_⟩
    have s3 := s2.trans (same_upd hL (.lst []))
    have hl3 : ns.length ≤ 3 := by
      rw [hlen.1]
      split <;> omega
    refine lc_list (xs := ns.map V.str) (fun i H2 => Same (upd H1 p (.lst (ns.map V.str))) H2 ∧ H2 L = some (.lst (List.replicate i (.bl true)))) ⟨same_upd hL (.lst []), upd_same⟩ (fun i H2 _ h => SqL.of (h.1 _ _ hl)) (fun i x H2 hx ⟨s4, hL2⟩ => ?_) (fun H2 ⟨s4, hL2⟩ => ?_)
    · rw [List.getElem?_map] at hx
      cases e : ns[i]? with
      | none => rw [e] at hx; cases hx
      | some z =>
        rw [e] at hx
        cases hx
        have hi : i < ns.length := (List.getElem?_eq_some_iff.mp e).1
        have hz := hlen.2 z (List.mem_of_getElem? e)
        refine ⟨rfl, _, rfl, _, rfl, .inl ⟨_, rfl, nm_len hz, fun H5 s5 => ?_⟩⟩
        rw [hz.b]
        refine ⟨_, s5 _ _ hL2, ?_, fun c o hc => ?_, ?_⟩
        · rw [List.length_replicate]
          exact small1000 (by omega)
        · rw [upd_ne (ne_of_none hc hL)]
          exact s5 _ _ (s4 _ _ hc)
        · rw [upd_same, ← List.replicate_succ']
    · rw [List.length_map] at hL2
      refine ⟨L, List.replicate ns.length true, rfl, SqL.of (by rw [hL2, List.map_replicate]), ?_⟩
      rw [all_true]
      exact q H2 (s2.trans s4)
end
end Un
namespace Un
open PySem L2 TL
section
variable {P : Program} {w : World} {K : PySem.W.Frag} {mg : Str → Option Value} {base : Heap}
def endsP : Pt → List Str
  | .flat _ _ es => es.drop 1
  | .mix _ ts => ts.map (·.a)
  | .use _ _ es => es
def leadsP : Pt → List Str
  | .flat _ _ es => es.drop 1
  | .mix _ ts => (ts.filter fun t => decide (t.d = 0)).map (·.a)
  | .use _ _ es => es
theorem endsP_len {p : Pt} (h : SmP p) : (endsP p).length ≤ 10 := by
  cases p with
  | flat k w es => have := h.2.2.2.2.1; show (es.drop 1).length ≤ 10; rw [List.length_drop]; omega
  | mix w ts => show (ts.map _).length ≤ 10; rw [List.length_map]; exact h.2.1
  | use w p es => exact h.2.2.1
theorem leads_sub {p : Pt} : ∀ e ∈ leadsP p, e ∈ endsP p := by
  intro e he
  cases p with
  | flat k w es => exact he
  | mix w ts =>
    obtain ⟨t, ht, rfl⟩ := List.mem_map.mp he
    exact List.mem_map.mpr ⟨t, (List.mem_filter.mp ht).1, rfl⟩
  | use w p es => exact he
theorem leads_len {p : Pt} (h : SmP p) : (leadsP p).length ≤ 10 := by
  cases p with
  | flat k w es => exact endsP_len h
  | mix w ts => show (List.map _ (ts.filter _)).length ≤ 10; rw [List.length_map]; exact Nat.le_trans (List.length_filter_le _ _) h.2.1
  | use w p es => exact h.2.2.1
def spStrs (f : Pt → List Str) : Sp := fun vs H Q _ => ∃ (x : V) (p : Pt), vs = [x] ∧ PtAt H x p ∧ OkP p ∧ SmP p ∧ notUse p ∧ ∀ (l : Addr) (H' : Hp), Same H H' → H l = none → H' l = some (.lst ((f p).map V.str)) → Q (.ref l) H'
theorem scWiresIn : FnScope ["part", "kind", "_", "items", "wire"] ["part"] (defScope sWiresIn) := ⟨rfl, rfl, rfl, by decide +kernel, rfl, by decide +kernel, by decide +kernel⟩
theorem ok_wiresIn {f : Addr} {fd : FuncData} (F : Fun K "wires_in" "wires_in" sWiresIn f fd) : FnOk P w K mg base CX0 1 f fd ["part"] (spStrs endsP) := by
  refine F.ok scWiresIn (fun vs H Q E h => ?_) (fun cdv A outer s H vs Q E hr h => ?_)
  · obtain ⟨x, p, rfl, _⟩ := h
    rfl
  obtain ⟨x, p, rfl, hp, ok, sm, nu, q⟩ := h
  refine ⟨_, (pss_cons (ps_asg (pv 0) (pg_star (n := 2) rfl (pgs_cons (pg_name (i := 1) scWiresIn.nd rfl (by first | exact Or.inl rfl | exact Or.inr rfl)) (pgs_cons (pg_name (i := 2) scWiresIn.nd rfl (by first | exact Or.inl rfl | exact Or.inr rfl)) (pgs_star (pg_name (i := 3) scWiresIn.nd rfl (by first | exact Or.inl rfl | exact Or.inr rfl)))))))
 (pss_cons (ps_if (pt_cmpR op_eq (pv 1) pe_str (nomark _))
 (pss_one (ps_ret (pe_lc (own := [("_", 2), ("wire", 4)]) (g := (gTup K 3 (gCons (gName 2) (gCons (gName 2) (gCons (gName 4) gNil))))) rfl scWiresIn.nd (pi_tup (pe_ix ix_list (pv 3) pe_int (fun _ _ => rfl))) (blkOk_by (own := [("_", 2), ("wire", 4)]) (N := ["part", "kind", "_", "items", "wire"]) (sc := defScope sWiresIn) (by decide +kernel)) (fun _ _ _ _ _ => (pg_tup (n := 3) rfl (pgs_cons (pg_name (i := 2) scWiresIn.nd rfl (Or.inl rfl) (Or.inr rfl)) (pgs_cons (pg_name (i := 2) scWiresIn.nd rfl (Or.inl rfl) (Or.inr rfl)) (pgs_cons (pg_name (i := 4) scWiresIn.nd rfl (Or.inl rfl) (Or.inr rfl)) pgs_nil))))) (fun _ _ _ _ _ => pts_nil) (fun _ _ _ _ _ => (pv 4)))))
 pss_nil)
 (pss_cons (ps_if (pt_cmpR op_eq (pv 1) pe_str (nomark _))
 pss_never
 pss_nil)
 (pss_one (ps_ret (pe_slice sl_list (pv 3) (po_some pe_int) po_none)))))), ?_⟩
  cases p with
  | use w p es => exact False.elim nu
  | mix wr ts =>
    obtain ⟨a, b, us, rfl, ha, hb, hA⟩ := hp
    obtain ⟨hw, hl, ht⟩ := ok
    refine ⟨_, rfl, a, _, rfl, SqT.of ha, (by show 2 ≤ 3; decide), fun p hp0 => ?_⟩
    have s2 := same_upd hp0 (.lst [.ref b])
    refine ⟨_, _, rfl, _, _, rfl, _, _, rfl, rfl, ?_⟩
    refine ⟨_, rfl, rfl, _, rfl, iteT ?_⟩
    refine ⟨_, rfl, p, [.ref b], 0, .ref b, rfl, rfl, SqL.of upd_same, rfl, ?_⟩
    refine ⟨b, rfl, ⟨_, SqT.of (s2 _ _ hb)⟩, fun D hD => ?_⟩
    have hD0 := s2.free hD
    refine lc_tup (xs := us) (fun i H2 => Same (upd H p (.lst [.ref b])) H2 ∧ H2 D = some (.lst ((ts.take i).map fun t => V.str t.a))) ⟨same_upd hD _, upd_same⟩ (fun i H2 _ h => SqT.of (h.1 _ _ (s2 _ _ hb))) (fun i x H2 hx ⟨s4, hD2⟩ => ?_) (fun H2 ⟨s4, hD2⟩ => ?_)
    · have hi : i < us.length := (List.getElem?_eq_some_iff.mp hx).1
      obtain ⟨t, ht⟩ : ∃ t, ts[i]? = some t := ⟨ts[i]'(by rw [← hA.1]; exact hi), List.getElem?_eq_getElem _⟩
      obtain ⟨c, rfl, hc⟩ := (hA.2 i x t hx ht).tups (Same.tups (s2.trans s4))
      refine ⟨c, _, rfl, SqT.of hc, rfl, _, _, rfl, _, _, rfl, _, _, rfl, rfl, rfl, _, rfl, _, hD2, ?_, fun e o he => ?_, ?_⟩
      · rw [List.length_map, List.length_take]
        exact small1000 (by omega)
      · rw [upd_ne (ne_of_none he hD)]
        exact s4 _ _ he
      · rw [upd_same, List.take_add_one, ht, List.map_append]
        rfl
    · refine q D H2 (s2.trans s4) hD0 ?_
      rw [hD2, hA.1, List.take_length]
      show _ = some (HO.lst ((ts.map (·.a)).map V.str))
      rw [List.map_map]
      rfl
  | flat k wr ns =>
    obtain ⟨a, rfl, ha⟩ := hp
    obtain ⟨hw, hk⟩ := ok
    obtain ⟨n1, n2, _⟩ := sm
    refine ⟨_, rfl, a, _, rfl, SqT.of ha, (by show 2 ≤ _ + 2; omega), fun p hp0 => ?_⟩
    have s2 := same_upd hp0 (.lst (ns.map V.str))
    have hl : upd H p (.lst (ns.map V.str)) p = some (.lst (ns.map V.str)) := upd_same
    refine ⟨_, _, rfl, _, _, rfl, _, _, rfl, rfl, ?_⟩
    refine ⟨_, rfl, rfl, _, rfl, ?_⟩
    rw [decide_eq_false (fun e => n1 (V.str.inj e))]
    refine iteF ?_
    refine ⟨_, rfl, rfl, _, rfl, ?_⟩
    rw [decide_eq_false (fun e => n2 (V.str.inj e))]
    refine iteF ?_
    refine ⟨_, rfl, 1, rfl, p, _, rfl, SqL.of hl, fun l hl0 => ?_⟩
    have e : cutV (ns.map V.str) (some 1) none = (ns.drop 1).map V.str := by
      rcases hk with ⟨rfl, rfl⟩ | ⟨_, f, e, rfl, _⟩ | ⟨rfl, f, e, g, rfl, _⟩ <;> rfl
    rw [e]
    exact q l _ (s2.trans (same_upd hl0 _)) (s2.free hl0) upd_same
theorem scLeadsOf : FnScope ["part", "_", "delay", "wire"] ["part"] (defScope sLeadsOf) := ⟨rfl, rfl, rfl, by decide +kernel, rfl, by decide +kernel, by decide +kernel⟩
theorem ok_leadsOf {f fw : Addr} {fd dw : FuncData} (F : Fun K "leads_of" "leads_of" sLeadsOf f fd) (GW : Df P w K mg base 1 fw dw "wires_in" ["part"] (spStrs endsP)) : FnOk P w K mg base CX0 2 f fd ["part"] (spStrs leadsP) := by
  refine F.ok scLeadsOf (fun vs H Q E h => ?_) (fun cdv A outer s H vs Q E hr h => ?_)
  · obtain ⟨x, p, rfl, _⟩ := h
    rfl
  obtain ⟨x, p, rfl, hp, ok, sm, nu, q⟩ := h
  refine ⟨_, (pss_cons (ps_if (pt_cmpR op_eq (pe_ix ix_tup (pv 0) pe_int (fun _ _ => rfl)) pe_str (nomark _))
 (pss_one (ps_ret (pe_lc (own := [("_", 1), ("delay", 2), ("wire", 3)]) (g := (gTup K 3 (gCons (gName 1) (gCons (gName 2) (gCons (gName 3) gNil))))) rfl scLeadsOf.nd (pi_tup (pe_ix ix_tup (pv 0) pe_int (fun _ _ => rfl))) (blkOk_by (own := [("_", 1), ("delay", 2), ("wire", 3)]) (N := ["part", "_", "delay", "wire"]) (sc := defScope sLeadsOf) (by decide +kernel)) (fun _ _ _ _ _ => (pg_tup (n := 3) rfl (pgs_cons (pg_name (i := 1) scLeadsOf.nd rfl (Or.inl rfl) (Or.inr rfl)) (pgs_cons (pg_name (i := 2) scLeadsOf.nd rfl (Or.inl rfl) (Or.inr rfl)) (pgs_cons (pg_name (i := 3) scLeadsOf.nd rfl (Or.inl rfl) (Or.inr rfl)) pgs_nil))))) (fun _ _ _ _ _ => (pts_one (pt_cmpR op_eq (pv 2) pe_int (nomark _)))) (fun _ _ _ _ _ => (pv 3)))))
 pss_nil)
 (pss_one (ps_ret (pe_call GW.ok (hr.mono (by decide)) (by rfl) GW.m GW.kp GW.b .nil pass0 (pa_cons (pv 0) pa_nil))))), ?_⟩
  cases p with
  | use w p es => exact False.elim nu
  | mix wr ts =>
    have hp' := hp
    obtain ⟨a, b, us, rfl, ha, hb, hA⟩ := hp
    obtain ⟨hw, hl, ht⟩ := ok
    refine ⟨_, rfl, a, _, 0, _, rfl, rfl, SqT.of ha, rfl, rfl, _, rfl, iteT ?_⟩
    refine ⟨_, rfl, a, _, 2, _, rfl, rfl, SqT.of ha, rfl, ?_⟩
    refine ⟨b, rfl, ⟨_, SqT.of hb⟩, fun D hD => ?_⟩
    refine lc_tup (xs := us) (fun i H2 => Same H H2 ∧ H2 D = some (.lst (((ts.take i).filter fun t => decide (t.d = 0)).map fun t => V.str t.a))) ⟨same_upd hD _, upd_same⟩ (fun i H2 _ h => SqT.of (h.1 _ _ hb)) (fun i x H2 hx ⟨s4, hD2⟩ => ?_) (fun H2 ⟨s4, hD2⟩ => ?_)
    · have hi : i < us.length := (List.getElem?_eq_some_iff.mp hx).1
      obtain ⟨t, ht⟩ : ∃ t, ts[i]? = some t := ⟨ts[i]'(by rw [← hA.1]; exact hi), List.getElem?_eq_getElem _⟩
      obtain ⟨c, rfl, hc⟩ := (hA.2 i x t hx ht).tups (Same.tups s4)
      refine ⟨c, _, rfl, SqT.of hc, rfl, _, _, rfl, _, _, rfl, _, _, rfl, rfl, rfl, _, rfl, rfl, _, rfl, ?_⟩
      by_cases hd : t.d = 0
      · rw [show decide (V.int t.d = V.int 0) = true by simp [hd]]
        refine iteT ⟨_, rfl, _, hD2, ?_, fun e o he => ?_, ?_⟩
        · rw [List.length_map]
          exact small1000 (Nat.le_trans (List.length_filter_le _ _) (by rw [List.length_take]; omega))
        · rw [upd_ne (ne_of_none he hD)]
          exact s4 _ _ he
        · rw [upd_same, List.take_add_one, ht, List.filter_append, List.map_append]
          show _ = some (HO.lst (_ ++ List.map _ (List.filter _ [t])))
          rw [List.filter_cons_of_pos (by simpa using hd)]
          rfl
      · rw [show decide (V.int t.d = V.int 0) = false by simp [hd]]
        refine iteF ⟨s4, ?_⟩
        rw [hD2, List.take_add_one, ht, List.filter_append, List.map_append]
        show _ = some (HO.lst (_ ++ List.map _ (List.filter _ [t])))
        rw [List.filter_cons_of_neg (by simpa using hd)]
        show _ = some (HO.lst (_ ++ []))
        rw [List.append_nil]
    · refine q D H2 s4 hD ?_
      rw [hD2, hA.1, List.take_length]
      show _ = some (HO.lst (((ts.filter fun t => decide (t.d = 0)).map (·.a)).map V.str))
      rw [List.map_map]
      rfl
  | flat k wr ns =>
    have hp' := hp
    obtain ⟨a, rfl, ha⟩ := hp
    refine ⟨_, rfl, a, _, 0, _, rfl, rfl, SqT.of ha, atI_nat (j := 0) rfl, rfl, _, rfl, ?_⟩
    rw [decide_eq_false (fun e => sm.1 (V.str.inj e))]
    refine iteF ?_
    exact ⟨_, rfl, .ref a, .flat k wr ns, rfl, hp', ok, sm, nu, q⟩
end
end Un
namespace Un
open PySem L2 TL
section
variable {P : Program} {w : World} {K : PySem.W.Frag} {mg : Str → Option Value} {base : Heap}
/-! ### rings -/
abbrev sReached : Stmt := top 47
abbrev sFirstRing : Stmt := top 48
def lkp (G : List (Str × List Str)) (z : Str) : Option (List Str) := (G.find? fun g => decide (g.1 = z)).map (·.2)
theorem lkp_cons (g : Str × List Str) (G : List (Str × List Str)) (z : Str) : lkp (g :: G) z = if g.1 = z then some g.2 else lkp G z := by
  unfold lkp
  by_cases h : g.1 = z
  · rw [List.find?_cons_of_pos (by simpa using h), if_pos h]
    rfl
  · rw [List.find?_cons_of_neg (by simpa using h), if_neg h]
theorem lkp_mem {G : List (Str × List Str)} {z : Str} {ls : List Str} (h : lkp G z = some ls) : (z, ls) ∈ G := by
  unfold lkp at h
  cases e : G.find? fun g => decide (g.1 = z) with
  | none => rw [e] at h; cases h
  | some g =>
    rw [e] at h
    have h1 := List.mem_of_find?_eq_some e
    have h2 := List.find?_some e
    have h3 : g.1 = z := by simpa using h2
    cases h
    rw [← h3]
    exact h1
theorem lkp_some {G : List (Str × List Str)} {z : Str} (h : z ∈ G.map (·.1)) : ∃ ls, lkp G z = some ls := by
  induction G with
  | nil => cases h
  | cons g G ih =>
    rw [lkp_cons]
    by_cases e : g.1 = z
    · exact ⟨_, if_pos e⟩
    · rw [if_neg e]
      refine ih ?_
      rcases List.mem_cons.mp h with h | h
      · exact absurd h.symm e
      · exact h
theorem lkp_key {G : List (Str × List Str)} {z : Str} {ls : List Str} (h : lkp G z = some ls) : z ∈ G.map (·.1) := List.mem_map.mpr ⟨_, lkp_mem h, rfl⟩
def EntryAt (H : Hp) (kv : Key × V) (g : Str × List Str) : Prop := kv.1 = Sum.inr g.1 ∧ ∃ l, kv.2 = .ref l ∧ H l = some (.lst (g.2.map V.str))
structure GraphAt (H : Hp) (d : Addr) (kvs : List (Key × V)) (G : List (Str × List Str)) : Prop where
  at_ : Rd H d (.dK kvs)
  all : All2 (EntryAt H) kvs G
theorem Rd.same {H H' : Hp} {d : Addr} {u : HO} (h : Rd H d u) (s : Same H H') : Rd H' d u := by
  rcases h with h | ⟨o, h⟩
  · exact .inl (s _ _ h)
  · exact .inr ⟨o, s _ _ h⟩
theorem EntryAt.same {H H' : Hp} {kv : Key × V} {g : Str × List Str} (h : EntryAt H kv g) (s : Same H H') : EntryAt H' kv g := ⟨h.1, by
  obtain ⟨_, l, e, hl⟩ := h
  exact ⟨l, e, s _ _ hl⟩⟩
theorem GraphAt.same {H H' : Hp} {d : Addr} {kvs : List (Key × V)} {G : List (Str × List Str)} (h : GraphAt H d kvs G) (s : Same H H') : GraphAt H' d kvs G := ⟨Rd.same h.at_ s, h.all.mono fun _ _ z => z.same s⟩
theorem entries_get {H : Hp} : ∀ {kvs : List (Key × V)} {G : List (Str × List Str)} {z : Str} {ls : List Str}, All2 (EntryAt H) kvs G → lkp G z = some ls → ∃ l, valV kvs (Sum.inr z) = some (.ref l) ∧ H l = some (.lst (ls.map V.str))
  | [], [], z, ls, _, h => by cases h
  | [], g :: G, z, ls, a, _ => by cases a.1
  | kv :: kvs, [], z, ls, a, _ => by cases a.1
  | kv :: kvs, g :: G, z, ls, a, h => by
    have h0 := a.2 0 kv g rfl rfl
    rw [lkp_cons] at h
    by_cases e : g.1 = z
    · rw [if_pos e] at h
      cases h
      obtain ⟨e1, l, e2, hl⟩ := h0
      refine ⟨l, ?_, hl⟩
      rw [valV_pos (by rw [e1, e]), e2]
    · rw [if_neg e] at h
      obtain ⟨l, h1, h2⟩ := entries_get a.tail.2 h
      refine ⟨l, ?_, h2⟩
      rw [valV_neg (by rw [h0.1]; exact fun z => e (Sum.inr.inj z))]
      exact h1
structure GOk (G : List (Str × List Str)) : Prop where
  nd : (G.map (·.1)).Nodup
  cl : ∀ z ls, lkp G z = some ls → ls.length ≤ 10 ∧ ∀ y ∈ ls, y ∈ G.map (·.1)
  l : G.length ≤ 30
inductive Rch (G : List (Str × List Str)) (p : Str) : Str → Prop
  | one {ls : List Str} {y : Str} : lkp G p = some ls → y ∈ ls → Rch G p y
  | step {x y : Str} {ls : List Str} : Rch G p x → lkp G x = some ls → y ∈ ls → Rch G p y
theorem Rch.key {G : List (Str × List Str)} {p y : Str} (ok : GOk G) (h : Rch G p y) : y ∈ G.map (·.1) := by
  cases h with
  | one h1 h2 => exact (ok.cl _ _ h1).2 _ h2
  | step _ h1 h2 => exact (ok.cl _ _ h1).2 _ h2
def marks (rs : List Str) : List (Key × V) := rs.map fun z => (Sum.inr z, V.bl true)
theorem marks_get (rs : List Str) (y : Str) : valV (marks rs) (Sum.inr y) = if y ∈ rs then some (V.bl true) else none := by
  induction rs with
  | nil => rfl
  | cons x rs ih =>
    show valV ((Sum.inr x, V.bl true) :: marks rs) _ = _
    by_cases e : x = y
    · rw [valV_pos (by rw [e]), if_pos (by rw [e]; exact List.mem_cons_self)]
    · rw [valV_neg (fun z => e (Sum.inr.inj z)), ih]
      by_cases m : y ∈ rs
      · rw [if_pos m, if_pos (List.mem_cons_of_mem _ m)]
      · rw [if_neg m, if_neg (fun z => (List.mem_cons.mp z).elim (fun q => e q.symm) m)]
theorem marks_put {rs : List Str} {y : Str} (h : y ∉ rs) : putK (marks rs) (Sum.inr y) (V.bl true) = marks (rs ++ [y]) := by
  rw [putK_new _ (by rw [marks_get, if_neg h])]
  unfold marks
  rw [List.map_append]
  rfl
theorem sub_len {xs ys : List Str} (h : xs.Nodup) (s : ∀ x ∈ xs, x ∈ ys) : xs.length ≤ ys.length := by
  induction xs generalizing ys with
  | nil => exact Nat.zero_le _
  | cons x xs ih =>
    have hx := s x List.mem_cons_self
    have h1 := List.nodup_cons.mp h
    have := ih (ys := ys.erase x) h1.2 fun z hz => (List.mem_erase_of_ne fun e => h1.1 (by rw [← e]; exact hz)).mpr (s z (List.mem_cons_of_mem _ hz))
    rw [List.length_erase_of_mem hx] at this
    have hp : 0 < ys.length := List.length_pos_of_mem hx
    rw [List.length_cons]
    omega
def spReached : Sp := fun vs H Q _ => ∃ (p : Str) (d : Addr) (kvs : List (Key × V)) (G : List (Str × List Str)), vs = [.str p, .ref d] ∧ GraphAt H d kvs G ∧ GOk G ∧ p ∈ G.map (·.1) ∧
  ∀ (e : Addr) (rs : List Str) (H' : Hp), Same H H' → H e = none → H' e = some (.dK (marks rs)) → (∀ x, x ∈ rs ↔ Rch G p x) → Q (.ref e) H'
theorem scReached : FnScope ["place", "leads", "reached", "waiting", "at"] ["place", "leads"] (defScope sReached) := ⟨rfl, rfl, rfl, by decide +kernel, rfl, by decide +kernel, by decide +kernel⟩
theorem ok_reached {f : Addr} {fd : FuncData} (F : Fun K "reached_from" "reached_from" sReached f fd) (mlist : mg "list" = none) : FnOk P w K mg base CX0 1 f fd ["place", "leads"] spReached := by
  refine F.ok scReached (fun vs H Q E h => ?_) (fun cdv A outer s H vs Q E hr h => ?_)
  · obtain ⟨p, d, kvs, G, rfl, _⟩ := h
    rfl
  obtain ⟨p, d, kvs, G, rfl, ga, ok, hp, q⟩ := h
  obtain ⟨ls0, h0⟩ := lkp_some hp
  refine ⟨_, (pss_cons (ps_set (i := 2) scReached.nd rfl (by first | exact Or.inl rfl | exact Or.inr rfl) pe_dnewK)
 (pss_cons (ps_set (i := 3) scReached.nd rfl (by first | exact Or.inl rfl | exact Or.inr rfl) (pe_callTy call_list_of (by rfl) mlist (by decide +kernel) (pa_cons (pe_dget (hu_of hr) (pv 1) (pv 0) (fun _ _ => rfl)) pa_nil)))
 (pss_cons (ps_while PassesOwn.never (pt_truth (pv 3) (by intro _; rfl))
 (pss_cons (ps_set (i := 4) scReached.nd rfl (by first | exact Or.inl rfl | exact Or.inr rfl) (pe_bm0 PySem.F.plainAttrs_list PySem.F.slot_list_pop PySem.F.type_list_pop mt_pop (pv 3)))
 (pss_one (ps_if (pt_cmp (pc_dnotin (hu_of hr) (pv 4) (pv 2)))
 (pss_cons (ps_dput (hu_of hr) (pv 2) (pv 4) pe_bl rfl)
 (pss_one (ps_expr (pe_bm PySem.F.plainAttrs_list PySem.F.slot_list_extend PySem.F.type_list_extend mt_extend (pv 3) (pa_cons (pe_dget (hu_of hr) (pv 1) (pv 4) (fun _ _ => rfl)) pa_nil)))))
 pss_nil))))
 (pss_one (ps_ret (pv 2)))))), ?_⟩
  intro e he
  have s1 := same_upd he (.dK [])
  obtain ⟨l0, hv0, hl0⟩ := entries_get (ga.same s1).all h0
  refine ⟨_, rfl, _, rfl, d, _, rfl, (.inl ⟨kvs, Sum.inr p, (ga.same s1).at_, rfl, hv0.symm⟩), l0, _, rfl, .inl (SqL.of hl0), fun wq hwq => ?_⟩
  have hwe : e ≠ wq := ne_of_none upd_same hwq
  have hwqH := s1.free hwq
  have gl := ok.l
  refine ⟨fun m σ H2 => ∃ (atv : Option V) (rs ws : List Str), σ = [some (.str p), some (.ref d), some (.ref e), some (.ref wq), atv] ∧ Same H H2 ∧ H2 e = some (.dK (marks rs)) ∧ H2 wq = some (.lst (ws.map V.str)) ∧
      (∀ x ∈ rs, Rch G p x) ∧ (∀ y ∈ ws, Rch G p y) ∧ (∀ y ∈ ls0, y ∈ rs ∨ y ∈ ws) ∧ (∀ x ∈ rs, ∀ ls, lkp G x = some ls → ∀ y ∈ ls, y ∈ rs ∨ y ∈ ws) ∧ rs.Nodup ∧ ws.length ≤ 10 + 10 * rs.length ∧ m = (40 - rs.length) * 11 + ws.length,
    ⟨_, none, [], ls0, rfl, s1.trans (same_upd hwq _), by rw [upd_ne hwe]; exact upd_same, upd_same, fun x hx => (nomatch hx), fun y hy => .one h0 hy, fun y hy => .inr hy, fun x hx => (nomatch hx), List.nodup_nil, (by have := (ok.cl _ _ h0).1; show ls0.length ≤ 10 + 10 * 0; omega), rfl⟩, ?_⟩
  rintro m σ H2 ⟨atv, rs, ws, rfl, s2, he2, hw2, i1, i2, i3, i4, nd, wl, rfl⟩
  have rl : rs.length ≤ G.length := by
    have := sub_len nd fun x hx => (i1 x hx).key ok
    rw [List.length_map] at this
    exact this
  refine ⟨_, rfl, _, .inl ⟨_, SqL.of hw2, rfl⟩, ?_⟩
  rcases List.eq_nil_or_concat ws with rfl | ⟨ws', y, rfl⟩
  · refine iteF ?_
    refine ⟨_, rfl, q e rs H2 s2 he he2 fun x => ⟨i1 x, fun h => ?_⟩⟩
    induction h with
    | one h1 h2 =>
      rw [h0] at h1
      cases h1
      rcases i3 _ h2 with h | h
      · exact h
      · cases h
    | step _ h1 h2 ih =>
      rcases i4 _ ih _ h1 _ h2 with h | h
      · exact h
      · cases h
  · have hyc : Rch G p y := i2 y (by simp)
    obtain ⟨ls, hls⟩ := lkp_some (hyc.key ok)
    have lsl := (ok.cl _ _ hls).1
    rw [show (!((ws'.concat y).map V.str).isEmpty) = true by simp]
    refine iteT ⟨fun σ' H' => ∃ m', m' < (40 - rs.length) * 11 + (ws'.concat y).length ∧ ∃ (atv : Option V) (rs ws : List Str), σ' = [some (.str p), some (.ref d), some (.ref e), some (.ref wq), atv] ∧ Same H H' ∧ H' e = some (.dK (marks rs)) ∧ H' wq = some (.lst (ws.map V.str)) ∧
      (∀ x ∈ rs, Rch G p x) ∧ (∀ y ∈ ws, Rch G p y) ∧ (∀ y ∈ ls0, y ∈ rs ∨ y ∈ ws) ∧ (∀ x ∈ rs, ∀ ls, lkp G x = some ls → ∀ y ∈ ls, y ∈ rs ∨ y ∈ ws) ∧ rs.Nodup ∧ ws.length ≤ 10 + 10 * rs.length ∧ m' = (40 - rs.length) * 11 + ws.length, fun σ' H' h => h, ?_⟩
    have hcat : ws'.concat y = ws' ++ [y] := List.concat_eq_append
    rw [hcat] at hw2 i2 i3 i4 wl ⊢
    have hlast : ((ws' ++ [y]).map V.str)[((ws' ++ [y]).map V.str).length - 1]? = some (.str y) := by
      rw [List.map_append, List.length_append]
      simp
    have hdrop : ((ws' ++ [y]).map V.str).dropLast = ws'.map V.str := by
      rw [List.map_append]
      simp
    refine ⟨_, rfl, .inl ⟨rfl, _, SqL.of hw2⟩, wq, _, _, rfl, rfl, hw2, hlast, ?_⟩
    rw [hdrop]
    have he3 : upd H2 wq (.lst (ws'.map V.str)) e = some (.dK (marks rs)) := by rw [upd_ne hwe]; exact he2
    have s3 : Same H (upd H2 wq (.lst (ws'.map V.str))) := fun b o hb => by
      rw [upd_ne (ne_of_none hb hwqH)]
      exact s2 _ _ hb
    refine ⟨_, rfl, _, rfl, e, _, rfl, DGet.k (k := Sum.inr y) he3, _, rfl, ?_⟩
    rw [marks_get]
    by_cases my : y ∈ rs
    · rw [if_pos my]
      refine iteF ?_
      have keep : ∀ z, z ∈ rs ∨ z ∈ ws' ++ [y] → z ∈ rs ∨ z ∈ ws' := fun z h => by
        rcases h with h | h
        · exact .inl h
        · rcases List.mem_append.mp h with h | h
          · exact .inr h
          · rw [List.mem_singleton.mp h]
            exact .inl my
      refine ⟨_, ?_, _, rs, ws', rfl, s3, he3, upd_same, i1, fun z hz => i2 z (List.mem_append_left _ hz), fun z hz => keep z (i3 z hz), fun x hx l hl z hz => keep z (i4 x hx l hl z hz), nd, ?_, rfl⟩
      · rw [List.length_append]
        show _ < _ + (_ + 1)
        omega
      · rw [List.length_append] at wl
        omega
    · rw [if_neg my]
      refine iteT ?_
      have lt : (marks rs).length < sizeLine := by
        unfold marks
        rw [List.length_map]
        exact small1000 (by omega)
      refine ⟨_, rfl, _, rfl, e, _, rfl, DPut.k (k := Sum.inr y) he3 lt, ?_⟩
      rw [marks_put my]
      have s4 : Same H (upd (upd H2 wq (.lst (ws'.map V.str))) e (.dK (marks (rs ++ [y])))) := fun b o hb => by
        rw [upd_ne (ne_of_none hb he)]
        exact s3 _ _ hb
      generalize hH4 : upd (upd H2 wq (.lst (ws'.map V.str))) e (.dK (marks (rs ++ [y]))) = H4 at s4 ⊢
      have he4 : H4 e = some (.dK (marks (rs ++ [y]))) := by rw [← hH4]; exact upd_same
      have hw4 : H4 wq = some (.lst (ws'.map V.str)) := by rw [← hH4, upd_ne hwe.symm]; exact upd_same
      obtain ⟨l, hv, hl⟩ := entries_get (ga.same s4).all hls
      rw [List.length_append] at wl
      have wl' : ws'.length + 1 ≤ 10 + 10 * rs.length := wl
      refine ⟨_, rfl, .inl ⟨rfl, _, SqL.of hw4⟩, _, rfl, _, rfl, d, _, rfl, (.inl ⟨kvs, Sum.inr y, (ga.same s4).at_, rfl, hv.symm⟩), wq, l, _, _, rfl, rfl, hw4, hl, ?_, ?_⟩
      · rw [List.length_map, List.length_map]
        exact Nat.le_trans (show ws'.length + ls.length ≤ 1000 by omega) (by decide)
      have hwl : wq ≠ e := hwe.symm
      refine ⟨_, ?_, _, rs ++ [y], ws' ++ ls, rfl, fun b o hb => ?_, ?_, ?_, fun x hx => ?_, fun z hz => ?_, fun z hz => ?_, fun x hx l hl z hz => ?_, ?_, ?_, rfl⟩
      · rw [List.length_append, List.length_append, List.length_append]
        show (40 - (rs.length + 1)) * 11 + (ws'.length + ls.length) < (40 - rs.length) * 11 + (ws'.length + 1)
        omega
      · rw [upd_ne (ne_of_none hb hwqH)]
        exact s4 _ _ hb
      · rw [upd_ne hwe]
        exact he4
      · rw [upd_same, List.map_append]
      · rcases List.mem_append.mp hx with h | h
        · exact i1 x h
        · rw [List.mem_singleton.mp h]
          exact hyc
      · rcases List.mem_append.mp hz with h | h
        · exact i2 z (List.mem_append_left _ h)
        · exact .step hyc hls h
      · rcases i3 z hz with h | h
        · exact .inl (List.mem_append_left _ h)
        · rcases List.mem_append.mp h with h | h
          · exact .inr (List.mem_append_left _ h)
          · exact .inl (List.mem_append_right _ h)
      · rcases List.mem_append.mp hx with h | h
        · rcases i4 x h l hl z hz with h | h
          · exact .inl (List.mem_append_left _ h)
          · rcases List.mem_append.mp h with h | h
            · exact .inr (List.mem_append_left _ h)
            · exact .inl (List.mem_append_right _ h)
        · rw [List.mem_singleton.mp h, hls] at hl
          cases hl
          exact .inr (List.mem_append_right _ hz)
      · refine List.nodup_append.mpr ⟨nd, by simp, fun a ha b hb => ?_⟩
        rw [List.mem_singleton.mp hb]
        exact fun e => my (e ▸ ha)
      · rw [List.length_append, List.length_append]
        show ws'.length + ls.length ≤ 10 + 10 * (rs.length + 1)
        omega
end
end Un
namespace Un
open PySem L2 TL
section
variable {P : Program} {w : World} {K : PySem.W.Frag} {mg : Str → Option Value} {base : Heap}
def Fst (G : List (Str × List Str)) (v : V) : Prop := (v = .non ∧ ∀ z ∈ G.map (·.1), ¬ Rch G z z) ∨ ∃ (i : Nat) (z : Str), (G.map (·.1))[i]? = some z ∧ Rch G z z ∧ (∀ (j : Nat) (y : Str), j < i → (G.map (·.1))[j]? = some y → ¬ Rch G y y) ∧ v = .str z
def spFirst : Sp := fun vs H Q _ => ∃ (d : Addr) (kvs : List (Key × V)) (G : List (Str × List Str)), vs = [.ref d] ∧ H d = some (.dK kvs) ∧ All2 (EntryAt H) kvs G ∧ GOk G ∧ ∀ (v : V) (H' : Hp), Same H H' → Fst G v → Q v H'
theorem scFirstRing : FnScope ["leads", "place"] ["leads"] (defScope sFirstRing) := ⟨rfl, rfl, rfl, by decide +kernel, rfl, by decide +kernel, by decide +kernel⟩
theorem ok_firstRing {f fr : Addr} {fd dr : FuncData} (F : Fun K "first_on_ring" "first_on_ring" sFirstRing f fd) (GR : Df P w K mg base 1 fr dr "reached_from" ["place", "leads"] spReached) : FnOk P w K mg base CX0 2 f fd ["leads"] spFirst := by
  refine F.ok scFirstRing (fun vs H Q E h => ?_) (fun cdv A outer s H vs Q E hr h => ?_)
  · obtain ⟨d, kvs, G, rfl, _⟩ := h
    rfl
  obtain ⟨d, kvs, G, rfl, hd, hA, ok, q⟩ := h
  refine ⟨_, (pss_cons (ps_lock (ps_for PassesOwn.never rfl (pi_keys (pv 0)) (pg_name (i := 1) scFirstRing.nd rfl (by first | exact Or.inl rfl | exact Or.inr rfl))
 (pss_one (ps_if (pt_cmp (pc_din (hu_of hr) (pv 1) (pe_call GR.ok (hr.mono (by decide)) (by rfl) GR.m GR.kp GR.b .nil pass0 (pa_cons (pv 1) (pa_cons (pv 0) pa_nil)))))
 (pss_one (ps_ret (pv 1)))
 pss_nil))))
 (pss_one (ps_ret pe_non))), ?_⟩
  refine ⟨d, .dK kvs, hd, trivial, fun od => ?_⟩
  have gall : ∀ H2, Same (upd H d (.frz od (.dK kvs))) H2 → GraphAt H2 d kvs G := fun H2 s2 => ⟨.inr ⟨od, s2 _ _ upd_same⟩, hA.mono fun kv g z => by
    obtain ⟨e1, l, e2, hl⟩ := z
    refine ⟨e1, l, e2, s2 _ _ ?_⟩
    rw [upd_ne (ne_of hl hd (by intro z; cases z))]
    exact hl⟩
  have back : ∀ H2, Same (upd H d (.frz od (.dK kvs))) H2 → Same H (upd H2 d (.dK kvs)) := fun H2 s2 b o hb => by
    by_cases e : b = d
    · rw [e, upd_same, ← hb, e, hd]
    · rw [upd_ne e]
      exact s2 _ _ (by rw [upd_ne e]; exact hb)
  refine ⟨_, rfl, d, od, rfl, .inl ⟨_, upd_same, ?_⟩⟩
  refine for_it walk_keys (fun i σ H2 => (∃ pv, σ = [some (.ref d), pv]) ∧ Same (upd H d (.frz od (.dK kvs))) H2 ∧ ∀ (j : Nat) (y : Str), j < i → (G.map (·.1))[j]? = some y → ¬ Rch G y y) ⟨⟨_, rfl⟩, Same.refl _, fun j y hj => absurd hj (Nat.not_lt_zero _)⟩ (fun i σ H2 _ h => h.2.1 _ _ upd_same) ?_ ?_
  · rintro i y σ H2 H3 hi ⟨⟨pv, rfl⟩, s2, none⟩ ⟨rfl, k, v, hkv, rfl⟩
    obtain ⟨g, hg⟩ : ∃ g, G[i]? = some g := ⟨G[i]'(by rw [← hA.1]; exact hi), List.getElem?_eq_getElem _⟩
    obtain ⟨ek, _⟩ := hA.2 i _ _ hkv hg
    have ek : k = Sum.inr g.1 := ek
    subst ek
    have hz : (G.map (·.1))[i]? = some g.1 := by rw [List.getElem?_map, hg]; rfl
    refine ⟨_, rfl, _, rfl, _, rfl, g.1, d, kvs, G, rfl, gall _ s2, ok, List.mem_of_getElem? hz, fun e rs H4 s4 he4 he4' hrs => ?_⟩
    refine ⟨e, _, rfl, DGet.k (k := Sum.inr g.1) he4', _, rfl, ?_⟩
    rw [marks_get]
    by_cases m : g.1 ∈ rs
    · rw [if_pos m]
      refine iteT ?_
      exact ⟨_, rfl, s4 _ _ (s2 _ _ upd_same), q _ _ (back _ (s2.trans s4)) (.inr ⟨i, g.1, hz, (hrs _).mp m, none, rfl⟩)⟩
    · rw [if_neg m]
      refine iteF ⟨⟨_, rfl⟩, s2.trans s4, fun j y hj hy => ?_⟩
      by_cases e : j = i
      · rw [e, hz] at hy
        cases hy
        exact fun r => m ((hrs _).mpr r)
      · exact none j y (by omega) hy
  · rintro σ H2 ⟨⟨pv, rfl⟩, s2, none⟩
    refine ⟨s2 _ _ upd_same, q _ _ (back _ s2) (.inl ⟨rfl, fun z hz => ?_⟩)⟩
    obtain ⟨j, hj⟩ := List.getElem?_of_mem hz
    have hl : j < (G.map (·.1)).length := (List.getElem?_eq_some_iff.mp hj).1
    rw [List.length_map] at hl
    exact none j z (by rw [hA.1]; exact hl) hj
/-- leads that go down: no ring -/
theorem no_ring {G : List (Str × List Str)} (rk : Str → Nat) (h : ∀ z ls, lkp G z = some ls → ∀ y ∈ ls, rk y < rk z) : ∀ z, ¬ Rch G z z := by
  have go : ∀ p y, Rch G p y → rk y < rk p := by
    intro p y r
    induction r with
    | one h1 h2 => exact h _ _ h1 _ h2
    | step _ h1 h2 ih => exact Nat.lt_trans (h _ _ h1 _ h2) ih
  exact fun z r => Nat.lt_irrefl _ (go z z r)
end
end Un
namespace Un
open PySem L2 TL
section
variable {P : Program} {w : World} {K : PySem.W.Frag} {mg : Str → Option Value} {base : Heap}
/-! ### the checks of nets -/
abbrev sCkOuts : Stmt := top 52
abbrev sCkWires : Stmt := top 53
abbrev sCkKnown : Stmt := top 54
abbrev sCkUses : Stmt := top 55
abbrev sPlainOf : Stmt := top 57
abbrev sCkKinds : Stmt := top 58
abbrev sBoxesIn : Stmt := top 59
structure NetTxt (K : PySem.W.Frag) (w : World) (mg : Str → Option Value) : Prop where
  len : mg "len" = none
  enum : mg "enumerate" = none
  outs : ∃ t, mg "MOST_OUTS" = some (.int 4 t)
  ends : ∃ (d : Addr) (es : Array DictEntry) (n : Nat), mg "ENDS" = some (.ref d) ∧ KDict K w d es n ∧ (∀ z, z ∈ kinds4 → ∃ t, PySem.W.nsIn K d z = some (some (.int (if z = "pair" then 2 else 1) t))) ∧ ∀ z : Str, z = "source" ∨ z = "mix" ∨ z = "use" → PySem.W.nsIn K d z = some none
def kindP : Pt → Str
  | .flat k _ _ => k
  | .mix _ _ => "mix"
  | .use _ _ _ => "use"
theorem PtAt.two {H : Hp} {x : V} {p : Pt} (h : PtAt H x p) : ∃ a r, x = .ref a ∧ H a = some (.tup (.str (kindP p) :: .str (Pw p) :: r)) := by
  cases p with
  | flat k w es => obtain ⟨a, e, h⟩ := h; exact ⟨a, _, e, h⟩
  | mix w ts => obtain ⟨a, b, vs, e, h, _⟩ := h; exact ⟨a, _, e, h⟩
  | use w p es => obtain ⟨a, b, e, h, _⟩ := h; exact ⟨a, _, e, h⟩
theorem not_use {p : Pt} (sm : SmP p) (h : notUse p) : ¬ kindP p = "use" := by
  cases p with
  | flat k w es => exact sm.2.1
  | mix w ts => show ¬ ("mix" : Str) = "use"; decide
  | use w p es => exact False.elim h
structure PlP (p : Pt) : Prop where
  ok : OkP p
  sm : SmP p
  nu : notUse p
structure PsAt (H : Hp) (o : Addr) (us : List V) (ps : List Pt) : Prop where
  at_ : H o = some (.lst us)
  all : All2 (PtAt H) us ps
  ok : ∀ p ∈ ps, PlP p
  l : ps.length ≤ 24
theorem PsAt.same {H H' : Hp} {o : Addr} {us : List V} {ps : List Pt} (h : PsAt H o us ps) (s : Same H H') : PsAt H' o us ps := ⟨s _ _ h.at_, h.all.mono fun _ _ z => z.tups (Same.tups s), h.ok, h.l⟩
theorem PsAt.nth {H : Hp} {o : Addr} {us : List V} {ps : List Pt} {i : Nat} {x : V} (h : PsAt H o us ps) (hx : us[i]? = some x) : ∃ p, ps[i]? = some p ∧ PtAt H x p ∧ PlP p := by
  have hi : i < us.length := (List.getElem?_eq_some_iff.mp hx).1
  obtain ⟨p, hp⟩ : ∃ p, ps[i]? = some p := ⟨ps[i]'(by rw [← h.all.1]; exact hi), List.getElem?_eq_getElem _⟩
  exact ⟨p, hp, h.all.2 i x p hx hp, h.ok p (List.mem_of_getElem? hp)⟩
/-- the wires that parts make -/
abbrev wiresP (ps : List Pt) : List Str := ps.map Pw
structure OsOk (os : List Str) : Prop where
  nm : ∀ z ∈ os, IsNm z
  l0 : 1 ≤ os.length
  l1 : os.length ≤ 4
def spCkOuts : Sp := fun vs H Q _ => ∃ (o : Addr) (os : List Str), vs = [.ref o] ∧ H o = some (.lst (os.map V.str)) ∧ OsOk os ∧ ∀ H', Same H H' → Q .non H'
theorem scCkOuts : FnScope ["outs", "at", "wire"] ["outs"] (defScope sCkOuts) := ⟨rfl, rfl, rfl, by decide +kernel, rfl, by decide +kernel, by decide +kernel⟩
theorem ok_ckOuts {f fm : Addr} {fd dm : FuncData} (F : Fun K "check_outs" "check_outs" sCkOuts f fd) (T : NetTxt K w mg) (GM : Df P w K mg base 1 fm dm "is_name" ["value"] (spName K)) : FnOk P w K mg base CX0 2 f fd ["outs"] spCkOuts := by
  refine F.ok scCkOuts (fun vs H Q E h => ?_) (fun cdv A outer s H vs Q E hr h => ?_)
  · obtain ⟨o, os, rfl, _⟩ := h
    rfl
  obtain ⟨o, os, rfl, ho, ⟨nm, l0, l1⟩, q⟩ := h
  obtain ⟨to, mouts⟩ := T.outs
  refine ⟨_, (pss_cons (ps_for PassesOwn.never rfl (pi_enum (by rfl) T.enum (pa_cons (pv 0) pa_nil)) (pg_tup (by rfl) (pgs_cons (pg_name (i := 1) scCkOuts.nd rfl (by first | exact Or.inl rfl | exact Or.inr rfl)) (pgs_cons (pg_name (i := 2) scCkOuts.nd rfl (by first | exact Or.inl rfl | exact Or.inr rfl)) pgs_nil)))
 (pss_one (ps_if (pt_not (pt_val (pe_call GM.ok (hr.mono (by decide)) (by rfl) GM.m GM.kp GM.b .nil pass0 (pa_cons (pv 2) pa_nil))))
 pss_never
 pss_nil)))
 (pss_one (ps_if (pt_not (pt_chain op_le op_le pe_int (pe_callB call_len_seq (by rfl) T.len PySem.boot_len (pa_cons (pv 0) pa_nil)) (pe_glob (v := .int 4) (by rfl) mouts ⟨_, rfl⟩)))
 pss_never
 pss_nil))), ?_⟩
  refine ⟨_, rfl, o, _, rfl, SqL.of ho, ?_⟩
  refine for_it walk_enum (fun i σ H2 => (∃ v1 v2, σ = [some (.ref o), v1, v2]) ∧ Same H H2) ⟨⟨_, _, rfl⟩, Same.refl H⟩ (fun i σ H2 _ h => SqL.of (h.2 _ _ ho)) ?_ ?_
  · rintro i v σ H2 H3 hi ⟨⟨v1, v2, rfl⟩, s2⟩ ⟨t, x, y, rfl, ht, rfl, hx, hy⟩
    cases hx
    have hy : (os.map V.str)[i]? = some y := hy
    rw [List.getElem?_map] at hy
    cases e : os[i]? with
    | none => rw [e] at hy; cases hy
    | some z =>
      rw [e] at hy
      cases hy
      have hz := nm z (List.mem_of_getElem? e)
      have s3 := s2.trans (same_upd ht (.tup [.int i, .str z]))
      refine ⟨t, _, rfl, SqT.of upd_same, rfl, _, _, rfl, _, _, rfl, rfl, ?_⟩
      refine ⟨_, rfl, _, rfl, .inl ⟨_, rfl, nm_len hz, fun H4 s4 => ?_⟩⟩
      rw [hz.b]
      exact ⟨_, rfl, iteF ⟨⟨_, _, rfl⟩, s3.trans s4⟩⟩
  · rintro σ H2 ⟨⟨v1, v2, rfl⟩, s2⟩
    refine ⟨_, rfl, o, _, rfl, .inl (SqL.of (s2 _ _ ho)), 1, _, rfl, rfl, _, rfl, ?_⟩
    rw [show decide ((1 : Int) ≤ (((os.map V.str).length : Nat) : Int)) = true from decide_eq_true (by rw [List.length_map]; omega)]
    refine iteT ⟨_, _, rfl, rfl, _, rfl, ?_⟩
    rw [show decide ((((os.map V.str).length : Nat) : Int) ≤ 4) = true from decide_eq_true (by rw [List.length_map]; omega)]
    exact iteF (q H2 s2)
def spCkKnown : Sp := fun vs H Q _ => ∃ (l d : Addr) (ws rs : List Str), vs = [.ref l, .ref d] ∧ H l = some (.lst (ws.map V.str)) ∧ H d = some (.dK (marks rs)) ∧ (∀ z ∈ ws, z ∈ rs) ∧ Q .non H
theorem scCkKnown : FnScope ["wires", "known", "wire"] ["wires", "known"] (defScope sCkKnown) := ⟨rfl, rfl, rfl, by decide +kernel, rfl, by decide +kernel, by decide +kernel⟩
theorem ok_ckKnown {f : Addr} {fd : FuncData} (F : Fun K "check_known" "check_known" sCkKnown f fd) : FnOk P w K mg base CX0 1 f fd ["wires", "known"] spCkKnown := by
  refine F.ok scCkKnown (fun vs H Q E h => ?_) (fun cdv A outer s H vs Q E hr h => ?_)
  · obtain ⟨l, d, ws, rs, rfl, _⟩ := h
    rfl
  obtain ⟨l, d, ws, rs, rfl, hl, hd, hk, q⟩ := h
  refine ⟨_, (pss_one (ps_for PassesOwn.never rfl (pi_list (pv 0)) (pg_name (i := 2) scCkKnown.nd rfl (by first | exact Or.inl rfl | exact Or.inr rfl))
 (pss_one (ps_if (pt_cmp (pc_dnotin (hu_of hr) (pv 2) (pv 1)))
 pss_never
 pss_nil)))), ?_⟩
  refine ⟨.ref l, rfl, l, rfl, ⟨_, SqL.of hl⟩, ?_⟩
  refine for_list (xs := ws.map V.str) (fun i σ H2 => (∃ v2, σ = [some (.ref l), some (.ref d), v2]) ∧ H2 = H) ⟨⟨_, rfl⟩, rfl⟩ (fun i σ H2 _ h => by rw [h.2]; exact SqL.of hl) ?_ ?_
  · rintro i x σ H2 hx ⟨⟨v2, rfl⟩, rfl⟩
    rw [List.getElem?_map] at hx
    cases e : ws[i]? with
    | none => rw [e] at hx; cases hx
    | some z =>
      rw [e] at hx
      cases hx
      refine ⟨_, rfl, _, rfl, d, _, rfl, DGet.k (k := Sum.inr z) hd, _, rfl, ?_⟩
      rw [marks_get, if_pos (hk z (List.mem_of_getElem? e))]
      exact iteF ⟨⟨_, rfl⟩, rfl⟩
  · rintro σ H2 ⟨⟨v2, rfl⟩, rfl⟩
    exact q
def spCkWires : Sp := fun vs H Q _ => ∃ (o u : Addr) (us : List V) (ps : List Pt) (os : List Str), vs = [.ref o, .ref u] ∧ PsAt H o us ps ∧ H u = some (.lst (os.map V.str)) ∧ (wiresP ps).Nodup ∧ (∀ p ∈ ps, ∀ e ∈ endsP p, e ∈ wiresP ps) ∧ (∀ z ∈ os, z ∈ wiresP ps) ∧ ∀ H', Same H H' → Q .non H'
theorem scCkWires : FnScope ["parts", "outs", "known", "part"] ["parts", "outs"] (defScope sCkWires) := ⟨rfl, rfl, rfl, by decide +kernel, rfl, by decide +kernel, by decide +kernel⟩
theorem nd_take {xs : List Str} {i : Nat} {x : Str} (h : xs.Nodup) (hx : xs[i]? = some x) : x ∉ xs.take i := by
  intro hm
  obtain ⟨j, hj⟩ := List.getElem?_of_mem hm
  rw [List.getElem?_take] at hj
  split at hj
  · rename_i lt
    obtain ⟨h1, e1⟩ := List.getElem?_eq_some_iff.mp hj
    obtain ⟨h2, e2⟩ := List.getElem?_eq_some_iff.mp hx
    have := (List.nodup_iff_pairwise_ne.mp h)
    rw [List.pairwise_iff_getElem] at this
    exact this j i h1 h2 lt (e1.trans e2.symm)
  · cases hj
theorem ok_ckWires {f fk fw : Addr} {fd dk dw : FuncData} (F : Fun K "check_wires" "check_wires" sCkWires f fd) (GK : Df P w K mg base 1 fk dk "check_known" ["wires", "known"] spCkKnown) (GW : Df P w K mg base 1 fw dw "wires_in" ["part"] (spStrs endsP)) : FnOk P w K mg base CX0 2 f fd ["parts", "outs"] spCkWires := by
  refine F.ok scCkWires (fun vs H Q E h => ?_) (fun cdv A outer s H vs Q E hr h => ?_)
  · obtain ⟨o, u, us, ps, os, rfl, _⟩ := h
    rfl
  obtain ⟨o, u, us, ps, os, rfl, pa, hu, nd, hk, ho, q⟩ := h
  refine ⟨_, (pss_cons (ps_set (i := 2) scCkWires.nd rfl (by first | exact Or.inl rfl | exact Or.inr rfl) pe_dnewK)
 (pss_cons (ps_for PassesOwn.never rfl (pi_list (pv 0)) (pg_name (i := 3) scCkWires.nd rfl (by first | exact Or.inl rfl | exact Or.inr rfl))
 (pss_cons (ps_if (pt_cmp (pc_din (hu_of hr) (pe_ix ix_tup (pv 3) pe_int (fun _ _ => rfl)) (pv 2)))
 pss_never
 pss_nil)
 (pss_one (ps_dput (hu_of hr) (pv 2) (pe_ix ix_tup (pv 3) pe_int (fun _ _ => rfl)) pe_bl rfl))))
 (pss_cons (ps_for PassesOwn.never rfl (pi_list (pv 0)) (pg_name (i := 3) scCkWires.nd rfl (by first | exact Or.inl rfl | exact Or.inr rfl))
 (pss_one (ps_expr (pe_call GK.ok (hr.mono (by decide)) (by rfl) GK.m GK.kp GK.b .nil pass0 (pa_cons (pe_call GW.ok (hr.mono (by decide)) (by rfl) GW.m GW.kp GW.b .nil pass0 (pa_cons (pv 3) pa_nil)) (pa_cons (pv 2) pa_nil))))))
 (pss_one (ps_expr (pe_call GK.ok (hr.mono (by decide)) (by rfl) GK.m GK.kp GK.b .nil pass0 (pa_cons (pv 1) (pa_cons (pv 2) pa_nil)))))))), ?_⟩
  intro d hd
  have s1 := same_upd hd (.dK [])
  have pl := pa.l
  refine ⟨.ref o, rfl, o, rfl, ⟨_, SqL.of (s1 _ _ pa.at_)⟩, ?_⟩
  refine for_list (xs := us) (fun i σ H2 => (∃ v3, σ = [some (.ref o), some (.ref u), some (.ref d), v3]) ∧ Same H H2 ∧ H2 d = some (.dK (marks ((wiresP ps).take i)))) ⟨⟨_, rfl⟩, s1, upd_same⟩ (fun i σ H2 _ h => SqL.of (h.2.1 _ _ pa.at_)) ?_ ?_
  · rintro i x σ H2 hx ⟨⟨v3, rfl⟩, s2, hd2⟩
    obtain ⟨p, hp, pt, _⟩ := (pa.same s2).nth hx
    obtain ⟨a, r, rfl, ha⟩ := pt.two
    have hw : (wiresP ps)[i]? = some (Pw p) := by rw [List.getElem?_map, hp]; rfl
    have hn := nd_take nd hw
    refine ⟨_, rfl, a, _, 1, _, rfl, rfl, SqT.of ha, atI_nat (j := 1) rfl, _, rfl, d, _, rfl, DGet.k (k := Sum.inr (Pw p)) hd2, _, rfl, ?_⟩
    rw [marks_get, if_neg hn]
    refine iteF ?_
    have lt : (marks ((wiresP ps).take i)).length < sizeLine := by
      unfold marks
      rw [List.length_map]
      exact small1000 (Nat.le_trans (List.length_take_le _ _) (by
        have hi := (List.getElem?_eq_some_iff.mp hp).1
        omega))
    refine ⟨_, rfl, _, rfl, a, _, 1, _, rfl, rfl, SqT.of ha, atI_nat (j := 1) rfl, d, _, rfl, DPut.k (k := Sum.inr (Pw p)) hd2 lt, ?_⟩
    rw [marks_put hn]
    refine ⟨⟨_, rfl⟩, fun b ob hb => ?_, ?_⟩
    · rw [upd_ne (ne_of_none hb hd)]
      exact s2 _ _ hb
    · rw [upd_same, List.take_add_one, hw]
      rfl
  · rintro σ H2 ⟨⟨v3, rfl⟩, s2, hd2⟩
    rw [pa.all.1, ← List.length_map (f := Pw), List.take_length] at hd2
    refine ⟨.ref o, rfl, o, rfl, ⟨_, SqL.of (s2 _ _ pa.at_)⟩, ?_⟩
    refine for_list (xs := us) (fun i σ H3 => (∃ v3, σ = [some (.ref o), some (.ref u), some (.ref d), v3]) ∧ Same H2 H3) ⟨⟨_, rfl⟩, Same.refl _⟩ (fun i σ H3 _ h => SqL.of (h.2 _ _ (s2 _ _ pa.at_))) ?_ ?_
    · rintro i x σ H3 hx ⟨⟨v3, rfl⟩, s3⟩
      obtain ⟨p, hp, pt, pp⟩ := (pa.same (s2.trans s3)).nth hx
      refine ⟨_, rfl, x, p, rfl, pt, pp.ok, pp.sm, pp.nu, fun l H4 s4 hl hl4 => ?_⟩
      exact ⟨_, rfl, l, d, endsP p, wiresP ps, rfl, hl4, s4 _ _ (s3 _ _ hd2), fun z hz => hk p (List.mem_of_getElem? hp) z hz, ⟨_, rfl⟩, s3.trans s4⟩
    · rintro σ H3 ⟨⟨v3, rfl⟩, s3⟩
      exact ⟨_, rfl, _, rfl, u, d, os, wiresP ps, rfl, s3 _ _ (s2 _ _ hu), s3 _ _ hd2, ho, q _ (s2.trans s3)⟩
end
end Un
namespace Un
open PySem L2 TL
section
variable {P : Program} {w : World} {K : PySem.W.Frag} {mg : Str → Option Value} {base : Heap}
theorem ixT {X : Cx} {K : PySem.W.Frag} (h : X.K = K) : IxR X (rIxT K) := h ▸ ix_tup
theorem op_inK {X : Cx} {K : PySem.W.Frag} {w : World} {d : Addr} {es : Array DictEntry} {n : Nat} (hK : X.K = K) (hw : X.w = w) (D : KDict K w d es n) : OpR X (compareOp .In) (fun x y H Q => ∃ (z : Str) (r : Option Value), x = .str z ∧ y = .ref d ∧ PySem.W.nsIn K d z = some r ∧ Q (.bl r.isSome) H) := by
  subst hK hw
  exact op_in_kd D
def spCkUses : Sp := fun vs H Q _ => ∃ (o : Addr) (us : List V) (ps : List Pt) (y : V), vs = [.ref o, y] ∧ PsAt H o us ps ∧ ∀ H', Same H H' → Q .non H'
theorem scCkUses : FnScope ["parts", "pieces", "at", "part", "piece"] ["parts", "pieces"] (defScope sCkUses) := ⟨rfl, rfl, rfl, by decide +kernel, rfl, by decide +kernel, by decide +kernel⟩
theorem ok_ckUses {f : Addr} {fd : FuncData} (F : Fun K "check_uses" "check_uses" sCkUses f fd) (T : NetTxt K w mg) : FnOk P w K mg base CX0 1 f fd ["parts", "pieces"] spCkUses := by
  refine F.ok scCkUses (fun vs H Q E h => ?_) (fun cdv A outer s H vs Q E hr h => ?_)
  · obtain ⟨o, us, ps, y, rfl, _⟩ := h
    rfl
  obtain ⟨o, us, ps, y, rfl, pa, q⟩ := h
  refine ⟨_, (pss_one (ps_for PassesOwn.never rfl (pi_enum (by rfl) T.enum (pa_cons (pv 0) pa_nil)) (pg_tup (by rfl) (pgs_cons (pg_name (i := 2) scCkUses.nd rfl (by first | exact Or.inl rfl | exact Or.inr rfl)) (pgs_cons (pg_name (i := 3) scCkUses.nd rfl (by first | exact Or.inl rfl | exact Or.inr rfl)) pgs_nil)))
 (pss_one (ps_if (pt_cmpR op_eq (pe_ix ix_tup (pv 3) pe_int (fun _ _ => rfl)) pe_str (nomark _))
 pss_never
 pss_nil)))), ?_⟩
  refine ⟨_, rfl, o, _, rfl, SqL.of pa.at_, ?_⟩
  refine for_it walk_enum (fun i σ H2 => (∃ v2 v3 v4, σ = [some (.ref o), some y, v2, v3, v4]) ∧ Same H H2) ⟨⟨_, _, _, rfl⟩, Same.refl H⟩ (fun i σ H2 _ h => SqL.of (h.2 _ _ pa.at_)) ?_ ?_
  · rintro i v σ H2 H3 hi ⟨⟨v2, v3, v4, rfl⟩, s2⟩ ⟨t, x, z, rfl, ht, rfl, hx, hz⟩
    cases hx
    have hz : us[i]? = some z := hz
    have s3 := s2.trans (same_upd ht (.tup [.int i, z]))
    obtain ⟨p, hp, pt, pp⟩ := (pa.same s3).nth hz
    obtain ⟨a, r, rfl, ha⟩ := pt.two
    refine ⟨t, _, rfl, SqT.of upd_same, rfl, _, _, rfl, _, _, rfl, rfl, ?_⟩
    refine ⟨_, rfl, a, _, 0, _, rfl, rfl, SqT.of ha, atI_nat (j := 0) rfl, rfl, _, rfl, ?_⟩
    rw [decide_eq_false (fun e => not_use pp.sm pp.nu (V.str.inj e))]
    exact iteF ⟨⟨_, _, _, rfl⟩, s3⟩
  · rintro σ H2 ⟨⟨v2, v3, v4, rfl⟩, s2⟩
    exact q H2 s2
def spPlainOf : Sp := fun vs H Q _ => ∃ (o : Addr) (us : List V) (ps : List Pt) (y : V), vs = [.ref o, y] ∧ PsAt H o us ps ∧ ∀ (m : Addr) (H' : Hp), Same H H' → H m = none → H' m = some (.lst us) → Q (.ref m) H'
theorem scPlainOf : FnScope ["parts", "pieces", "made", "part"] ["parts", "pieces"] (defScope sPlainOf) := ⟨rfl, rfl, rfl, by decide +kernel, rfl, by decide +kernel, by decide +kernel⟩
theorem ok_plainOf {f : Addr} {fd : FuncData} (F : Fun K "plain_of" "plain_of" sPlainOf f fd) : FnOk P w K mg base CX0 1 f fd ["parts", "pieces"] spPlainOf := by
  refine F.ok scPlainOf (fun vs H Q E h => ?_) (fun cdv A outer s H vs Q E hr h => ?_)
  · obtain ⟨o, us, ps, y, rfl, _⟩ := h
    rfl
  obtain ⟨o, us, ps, y, rfl, pa, q⟩ := h
  refine ⟨_, (pss_cons (ps_set (i := 2) scPlainOf.nd rfl (by first | exact Or.inl rfl | exact Or.inr rfl) (pe_lst pa_nil))
 (pss_cons (ps_for PassesOwn.never rfl (pi_list (pv 0)) (pg_name (i := 3) scPlainOf.nd rfl (by first | exact Or.inl rfl | exact Or.inr rfl))
 (pss_one (ps_if (pt_cmpR op_eq (pe_ix ix_tup (pv 3) pe_int (fun _ _ => rfl)) pe_str (nomark _))
 pss_never
 (pss_one (ps_expr (pe_bm PySem.F.plainAttrs_list PySem.F.slot_list_append PySem.F.type_list_append mt_append (pv 2) (pa_cons (pv 3) pa_nil)))))))
 (pss_one (ps_ret (pv 2))))), ?_⟩
  refine ⟨(by show 0 ≤ sizeLine; decide), fun m hm => ?_⟩
  have s1 := same_upd hm (.lst [])
  have pl := pa.l
  refine ⟨.ref o, rfl, o, rfl, ⟨_, SqL.of (s1 _ _ pa.at_)⟩, ?_⟩
  refine for_list (xs := us) (fun i σ H2 => (∃ v3, σ = [some (.ref o), some y, some (.ref m), v3]) ∧ Same H H2 ∧ H2 m = some (.lst (us.take i))) ⟨⟨_, rfl⟩, s1, upd_same⟩ (fun i σ H2 _ h => SqL.of (h.2.1 _ _ pa.at_)) ?_ ?_
  · rintro i x σ H2 hx ⟨⟨v3, rfl⟩, s2, hm2⟩
    obtain ⟨p, hp, pt, pp⟩ := (pa.same s2).nth hx
    obtain ⟨a, r, rfl, ha⟩ := pt.two
    refine ⟨_, rfl, a, _, 0, _, rfl, rfl, SqT.of ha, atI_nat (j := 0) rfl, rfl, _, rfl, ?_⟩
    rw [decide_eq_false (fun e => not_use pp.sm pp.nu (V.str.inj e))]
    refine iteF ?_
    refine ⟨_, rfl, .inl ⟨rfl, _, SqL.of hm2⟩, _, rfl, m, _, _, rfl, rfl, hm2, ?_, ⟨_, rfl⟩, fun b ob hb => ?_, ?_⟩
    · have hi := (List.getElem?_eq_some_iff.mp hp).1
      exact Nat.lt_of_le_of_lt (List.length_take_le _ _) (small1000 (by omega))
    · rw [upd_ne (ne_of_none hb hm)]
      exact s2 _ _ hb
    · rw [upd_same, List.take_add_one, hx]
      rfl
  · rintro σ H2 ⟨⟨v3, rfl⟩, s2, hm2⟩
    rw [List.take_length] at hm2
    exact ⟨_, rfl, q m H2 s2 hm hm2⟩
/-- the boxes of parts: wire, kind, name -/
def boxP : Pt → List (Str × Str × Str)
  | .flat k w (f :: _) => [(w, k, f)]
  | _ => []
def boxesP (ps : List Pt) : List (Str × Str × Str) := ps.flatMap boxP
def B3At (H : Hp) (v : V) (b : Str × Str × Str) : Prop := ∃ a, v = .ref a ∧ H a = some (.tup [.str b.1, .str b.2.1, .str b.2.2])
theorem B3At.same {H H' : Hp} (s : Same H H') {v : V} {b : Str × Str × Str} (h : B3At H v b) : B3At H' v b := by
  obtain ⟨a, e, h⟩ := h
  exact ⟨a, e, s _ _ h⟩
def spBoxesIn : Sp := fun vs H Q _ => ∃ (o : Addr) (us : List V) (ps : List Pt), vs = [.ref o] ∧ PsAt H o us ps ∧ ∀ (l : Addr) (bs : List V) (H' : Hp), Same H H' → H l = none → H' l = some (.lst bs) → All2 (B3At H') bs (boxesP ps) → Q (.ref l) H'
theorem scBoxesIn : FnScope ["plain", "part"] ["plain"] (defScope sBoxesIn) := ⟨rfl, rfl, rfl, by decide +kernel, rfl, by decide +kernel, by decide +kernel⟩
theorem boxP_len (p : Pt) : (boxP p).length ≤ 1 := by
  cases p with
  | flat k w es => cases es with
    | nil => exact Nat.zero_le _
    | cons => exact Nat.le_refl _
  | mix => exact Nat.zero_le _
  | use => exact Nat.zero_le _
theorem boxesP_len (ps : List Pt) : (boxesP ps).length ≤ ps.length := by
  induction ps with
  | nil => exact Nat.le_refl _
  | cons p ps ih =>
    show (boxP p ++ boxesP ps).length ≤ _
    have := boxP_len p
    rw [List.length_append, List.length_cons]
    omega
theorem boxesP_snoc (ps : List Pt) (p : Pt) : boxesP (ps ++ [p]) = boxesP ps ++ boxP p := by
  unfold boxesP
  rw [List.flatMap_append]
  simp
/-- a part is a box, or isn't -/
theorem PlP.kinds {p : Pt} (h : PlP p) : (kindP p ∈ kinds4 ∧ ∃ k w f es, p = .flat k w (f :: es)) ∨ ((kindP p = "source" ∨ kindP p = "mix" ∨ kindP p = "use") ∧ boxP p = []) := by
  cases p with
  | flat k w es =>
    obtain ⟨_, hk⟩ := h.ok
    rcases hk with ⟨rfl, rfl⟩ | ⟨hk, f, e, rfl, _⟩ | ⟨rfl, f, e, g, rfl, _⟩
    · exact .inr ⟨.inl rfl, rfl⟩
    · refine .inl ⟨?_, _, _, _, _, rfl⟩
      show k ∈ kinds4
      rcases hk with rfl | rfl | rfl <;> decide
    · exact .inl ⟨by show ("pair" : Str) ∈ kinds4; decide, _, _, _, _, rfl⟩
  | mix w ts => exact .inr ⟨.inr (.inl rfl), rfl⟩
  | use w p es => exact False.elim h.nu
theorem ok_boxesIn {f : Addr} {fd : FuncData} (F : Fun K "boxes_in" "boxes_in" sBoxesIn f fd) (T : NetTxt K w mg) : FnOk P w K mg base CX0 1 f fd ["plain"] spBoxesIn := by
  refine F.ok scBoxesIn (fun vs H Q E h => ?_) (fun cdv A outer s H vs Q E hr h => ?_)
  · obtain ⟨o, us, ps, rfl, _⟩ := h
    rfl
  obtain ⟨o, us, ps, rfl, pa, q⟩ := h
  obtain ⟨d, es, n, mends, D, e4, e0⟩ := T.ends
  refine ⟨_, (pss_one (ps_ret (pe_lc (own := [("part", 1)]) (g := (gName 1)) rfl scBoxesIn.nd (pi_list (pv 0)) (blkOk_by (own := [("part", 1)]) (N := ["plain", "part"]) (sc := defScope sBoxesIn) (by decide +kernel)) (fun _ _ _ _ _ => (pg_name (i := 1) scBoxesIn.nd rfl (Or.inl rfl) (Or.inr rfl))) (fun _ _ _ _ _ => (pts_one (pt_cmpR (op_inK (K := K) (w := w) rfl rfl D) (pe_ix (ixT (K := K) rfl) (pv 1) pe_int (fun _ _ => rfl)) (pe_glob (v := .ref d) (by rfl) mends rfl) (by rfl)))) (fun _ _ _ _ _ => (pe_tup (pa_cons (pe_ix (ixT (K := K) rfl) (pv 1) pe_int (fun _ _ => rfl)) (pa_cons (pe_ix (ixT (K := K) rfl) (pv 1) pe_int (fun _ _ => rfl)) (pa_cons (pe_ix (ixT (K := K) rfl) (pv 1) pe_int (fun _ _ => rfl)) pa_nil)))))))), ?_⟩
  have pl := pa.l
  refine ⟨.ref o, rfl, o, rfl, ⟨_, SqL.of pa.at_⟩, fun l hl => ?_⟩
  refine lc_list (xs := us) (fun i H2 => Same H H2 ∧ ∃ bs, H2 l = some (.lst bs) ∧ All2 (B3At H2) bs (boxesP (ps.take i))) ⟨same_upd hl _, [], upd_same, rfl, fun i u v hu => by cases hu⟩ (fun i H2 _ h => SqL.of (h.1 _ _ pa.at_)) (fun i x H2 hx ⟨s2, bs, hl2, hb2⟩ => ?_) (fun H2 ⟨s2, bs, hl2, hb2⟩ => ?_)
  · obtain ⟨p, hp, pt, pp⟩ := (pa.same s2).nth hx
    have htk : ps.take (i + 1) = ps.take i ++ [p] := by rw [List.take_add_one, hp]; rfl
    have hi := (List.getElem?_eq_some_iff.mp hp).1
    rw [htk, boxesP_snoc]
    rcases pp.kinds with ⟨k4, k, wr, f, es', rfl⟩ | ⟨k3, hb0⟩
    · obtain ⟨a, rfl, ha⟩ := pt
      obtain ⟨t, et⟩ := e4 k k4
      refine ⟨rfl, _, rfl, a, _, 0, _, rfl, rfl, SqT.of ha, atI_nat (j := 0) rfl, k, _, rfl, rfl, et, _, rfl, iteT ?_⟩
      refine ⟨_, rfl, a, _, 1, _, rfl, rfl, SqT.of ha, atI_nat (j := 1) rfl, _, rfl, a, _, 0, _, rfl, rfl, SqT.of ha, atI_nat (j := 0) rfl, _, rfl, a, _, 2, _, rfl, rfl, SqT.of ha, atI_nat (j := 2) rfl, (by show 3 ≤ sizeLine; decide), fun t ht => ?_⟩
      have s3 := same_upd ht (.tup [.str wr, .str k, .str f])
      have nlt : l ≠ t := ne_of_none hl2 ht
      refine ⟨bs, by rw [upd_ne nlt]; exact hl2, ?_, fun b ob hb => ?_, _, upd_same, ?_⟩
      · rw [hb2.1]
        exact small1000 (Nat.le_trans (boxesP_len _) (Nat.le_trans (List.length_take_le _ _) (by omega)))
      · rw [upd_ne (ne_of_none hb hl)]
        exact s3 _ _ (s2 _ _ hb)
      · have s4 : ∀ b xs, H2 b = some (.tup xs) → upd (upd H2 t (.tup [.str wr, .str k, .str f])) l (.lst (bs ++ [.ref t])) b = some (.tup xs) := fun b xs hb => by
          rw [upd_ne (ne_of hb hl2 (by intro z; cases z))]
          exact s3 _ _ hb
        refine All2.snoc (hb2.mono fun u v z => ?_) ⟨t, rfl, ?_⟩
        · obtain ⟨c, e, hc⟩ := z
          exact ⟨c, e, s4 _ _ hc⟩
        · rw [upd_ne nlt.symm]
          exact upd_same
    · obtain ⟨a, r, rfl, ha⟩ := pt.two
      refine ⟨rfl, _, rfl, a, _, 0, _, rfl, rfl, SqT.of ha, atI_nat (j := 0) rfl, kindP p, _, rfl, rfl, e0 _ k3, _, rfl, iteF ?_⟩
      rw [hb0, List.append_nil]
      exact ⟨s2, bs, hl2, hb2⟩
  · rw [pa.all.1, List.take_length] at hb2
    exact q l bs H2 s2 hl hl2 hb2
/-- boxes of one name are of one kind -/
def Agree (bs : List (Str × Str × Str)) : Prop := ∀ x ∈ bs, ∀ y ∈ bs, x.2.2 = y.2.2 → x.2.1 = y.2.1
def spCkKinds : Sp := fun vs H Q _ => ∃ (l : Addr) (vs' : List V) (bs : List (Str × Str × Str)), vs = [.ref l] ∧ H l = some (.lst vs') ∧ All2 (B3At H) vs' bs ∧ bs.length ≤ 100 ∧ Agree bs ∧ ∀ H', Same H H' → Q .non H'
theorem scCkKinds : FnScope ["boxes", "kinds", "_", "kind", "box"] ["boxes"] (defScope sCkKinds) := ⟨rfl, rfl, rfl, by decide +kernel, rfl, by decide +kernel, by decide +kernel⟩
theorem ok_ckKinds {f : Addr} {fd : FuncData} (F : Fun K "check_kinds" "check_kinds" sCkKinds f fd) : FnOk P w K mg base CX0 1 f fd ["boxes"] spCkKinds := by
  refine F.ok scCkKinds (fun vs H Q E h => ?_) (fun cdv A outer s H vs Q E hr h => ?_)
  · obtain ⟨l, vs', bs, rfl, _⟩ := h
    rfl
  obtain ⟨l, vs', bs, rfl, hl, hA, len, ag, q⟩ := h
  refine ⟨_, (pss_cons (ps_set (i := 1) scCkKinds.nd rfl (by first | exact Or.inl rfl | exact Or.inr rfl) pe_dnewK)
 (pss_one (ps_for PassesOwn.never rfl (pi_list (pv 0)) (pg_tup (by rfl) (pgs_cons (pg_name (i := 2) scCkKinds.nd rfl (by first | exact Or.inl rfl | exact Or.inr rfl)) (pgs_cons (pg_name (i := 3) scCkKinds.nd rfl (by first | exact Or.inl rfl | exact Or.inr rfl)) (pgs_cons (pg_name (i := 4) scCkKinds.nd rfl (by first | exact Or.inl rfl | exact Or.inr rfl)) pgs_nil))))
 (pss_one (ps_if (pt_cmpR op_ne (pe_dsetd (pv 1) (pv 4) (pv 3) ⟨rfl, rfl, rfl, rfl⟩) (pv 3) (nomark _))
 pss_never
 pss_nil))))), ?_⟩
  intro d hd
  have s1 := same_upd hd (.dK [])
  refine ⟨.ref l, rfl, l, rfl, ⟨_, SqL.of (s1 _ _ hl)⟩, ?_⟩
  refine for_list (xs := vs') (fun i σ H2 => (∃ v2 v3 v4, σ = [some (.ref l), some (.ref d), v2, v3, v4]) ∧ Same H H2 ∧ ∃ kvs : List (Key × V), H2 d = some (.dK kvs) ∧ kvs.length ≤ i ∧ ∀ z v, valV kvs (Sum.inr z) = some v → ∃ x ∈ bs, x.2.2 = z ∧ v = .str x.2.1)
    ⟨⟨_, _, _, rfl⟩, s1, [], upd_same, Nat.le_refl _, fun z v h => by cases h⟩ (fun i σ H2 _ h => SqL.of (h.2.1 _ _ hl)) ?_ ?_
  · rintro i x σ H2 hx ⟨⟨v2, v3, v4, rfl⟩, s2, kvs, hd2, kl, kv⟩
    have hi : i < vs'.length := (List.getElem?_eq_some_iff.mp hx).1
    obtain ⟨b, hb⟩ : ∃ b, bs[i]? = some b := ⟨bs[i]'(by rw [← hA.1]; exact hi), List.getElem?_eq_getElem _⟩
    obtain ⟨a, rfl, ha⟩ := (hA.2 i x b hx hb).same s2
    have hbm := List.mem_of_getElem? hb
    refine ⟨a, _, rfl, SqT.of ha, rfl, _, _, rfl, _, _, rfl, _, _, rfl, rfl, ?_⟩
    have lt : kvs.length < sizeLine := small1000 (by have := hA.1; omega)
    refine ⟨_, rfl, d, rfl, .inl ⟨kvs, .inl hd2⟩, _, rfl, _, rfl, kvs, Sum.inr b.2.2, hd2, rfl, lt, fun v hv => ?_, fun hv => ?_⟩
    · obtain ⟨y, hy, e1, rfl⟩ := kv _ _ hv
      have := ag y hy b hbm e1
      refine ⟨_, rfl, rfl, _, rfl, ?_⟩
      rw [show (!decide (V.str y.2.1 = V.str b.2.1)) = false by rw [this]; simp]
      exact iteF ⟨⟨_, _, _, rfl⟩, s2, kvs, hd2, by omega, kv⟩
    · refine ⟨_, rfl, rfl, _, rfl, ?_⟩
      rw [show (!decide (V.str b.2.1 = V.str b.2.1)) = false by simp]
      refine iteF ⟨⟨_, _, _, rfl⟩, fun c oc hc => ?_, putK kvs (Sum.inr b.2.2) (.str b.2.1), upd_same, ?_, fun z v hz => ?_⟩
      · rw [upd_ne (ne_of_none hc hd)]
        exact s2 _ _ hc
      · have := length_putK kvs (Sum.inr b.2.2) (V.str b.2.1)
        omega
      · rw [valV_put] at hz
        split at hz
        · rename_i e
          cases hz
          exact ⟨b, hbm, (Sum.inr.inj e).symm, rfl⟩
        · exact kv z v hz
  · rintro σ H2 ⟨_, s2, _⟩
    exact q H2 s2
end
end Un
namespace Un
open PySem L2 TL
section
variable {P : Program} {w : World} {K : PySem.W.Frag} {mg : Str → Option Value} {base : Heap}
/-! ### nets -/
abbrev sNet : Stmt := top 60
abbrev sN_init : Stmt := inClass sNet 2
abbrev sN_parts : Stmt := inClass sNet 3
abbrev sN_outs : Stmt := inClass sNet 4
abbrev sN_plain : Stmt := inClass sNet 5
abbrev sN_wires : Stmt := inClass sNet 6
abbrev sN_sources : Stmt := inClass sNet 7
abbrev sN_boxes : Stmt := inClass sNet 8
abbrev sN_kinds : Stmt := inClass sNet 9
abbrev sN_text : Stmt := inClass sNet 10
abbrev sN_eq : Stmt := inClass sNet 15
abbrev sN_contains : Stmt := inClass sNet 16
abbrev sN_len : Stmt := inClass sNet 17
abbrev sN_bool : Stmt := inClass sNet 18
abbrev sN_repr : Stmt := inClass sNet 19
structure NetC (K : PySem.W.Frag) (C : Addr) : Prop where
  cl : Cls K C
  p : NoAttr K C "_parts"
  o : NoAttr K C "_outs"
  d : NoAttr K C "_pieces"
  m : NoAttr K C "_plain"
  most : ∃ u, Con K C "MOST" (.int 16) u
  boxes : ∃ u, Con K C "BOXES" (.int 8) u
structure Mt (P : Program) (w : World) (K : PySem.W.Frag) (mg : Str → Option Value) (base : Heap) (C : Addr) (k : Nat) (f : Addr) (fd : FuncData) (m : Str) (ps : List Str) (sp : Sp) : Prop where
  mt : Meth K C m f
  ok : FnOk P w K mg base CX0 k f fd ps sp
  b : Binds K fd ps []
def spFldL (K : PySem.W.Frag) (C : Addr) (f : Str) : Sp := fun vs H Q _ => ∃ (a dx p : Addr) (fs : List (Str × V)) (us : List V), vs = [.ref a] ∧ H a = some (.ins C dx fs) ∧ fs.lookup f = some (.ref p) ∧ H p = some (.lst us) ∧ ∀ l, H l = none → Q (.ref l) (upd H l (.lst us))
def spStrOf (C : Addr) (f : Str) (g : List Pt → List Str) : Sp := fun vs H Q _ => ∃ (a dx p : Addr) (fs : List (Str × V)) (us : List V) (ps : List Pt), vs = [.ref a] ∧ H a = some (.ins C dx fs) ∧ fs.lookup f = some (.ref p) ∧ PsAt H p us ps ∧ ∀ (l : Addr) (H' : Hp), Same H H' → H l = none → H' l = some (.lst ((g ps).map V.str)) → Q (.ref l) H'
def spBoxesM (C : Addr) : Sp := fun vs H Q _ => ∃ (a dx p : Addr) (fs : List (Str × V)) (us : List V) (ps : List Pt), vs = [.ref a] ∧ H a = some (.ins C dx fs) ∧ fs.lookup ("_plain" : Str) = some (.ref p) ∧ PsAt H p us ps ∧ ∀ (l : Addr) (bs : List V) (H' : Hp), Same H H' → H l = none → H' l = some (.lst bs) → All2 (B3At H') bs (boxesP ps) → Q (.ref l) H'
theorem scN_parts : FnScope ["self"] ["self"] (defScope sN_parts) := ⟨rfl, rfl, rfl, by decide +kernel, rfl, by decide +kernel, by decide +kernel⟩
theorem ok_n_parts {f C : Addr} {fd : FuncData} (F : Fun K "parts" "Net.parts" sN_parts f fd) (C' : NetC K C) (mlist : mg "list" = none) : FnOk P w K mg base CX0 1 f fd ["self"] (spFldL K C "_parts") := by
  refine F.ok scN_parts (fun vs H Q E h => ?_) (fun cdv A outer s H vs Q E hr h => ?_)
  · obtain ⟨a, dx, p, fs, us, rfl, _⟩ := h
    rfl
  obtain ⟨a, dx, p, fs, us, rfl, ha, hf, hp, q⟩ := h
  refine ⟨_, (pss_one (ps_ret (pe_callTy call_list_of (by rfl) mlist (by decide +kernel) (pa_cons (pe_fld (pv 0) rfl) pa_nil)))), ?_⟩
  exact ⟨_, rfl, a, C, dx, fs, _, rfl, ha, C'.cl, C'.p, hf, p, us, rfl, .inl (SqL.of hp), fun l hl => q l hl⟩
theorem scN_outs : FnScope ["self"] ["self"] (defScope sN_outs) := ⟨rfl, rfl, rfl, by decide +kernel, rfl, by decide +kernel, by decide +kernel⟩
theorem ok_n_outs {f C : Addr} {fd : FuncData} (F : Fun K "outs" "Net.outs" sN_outs f fd) (C' : NetC K C) (mlist : mg "list" = none) : FnOk P w K mg base CX0 1 f fd ["self"] (spFldL K C "_outs") := by
  refine F.ok scN_outs (fun vs H Q E h => ?_) (fun cdv A outer s H vs Q E hr h => ?_)
  · obtain ⟨a, dx, p, fs, us, rfl, _⟩ := h
    rfl
  obtain ⟨a, dx, p, fs, us, rfl, ha, hf, hp, q⟩ := h
  refine ⟨_, (pss_one (ps_ret (pe_callTy call_list_of (by rfl) mlist (by decide +kernel) (pa_cons (pe_fld (pv 0) rfl) pa_nil)))), ?_⟩
  exact ⟨_, rfl, a, C, dx, fs, _, rfl, ha, C'.cl, C'.o, hf, p, us, rfl, .inl (SqL.of hp), fun l hl => q l hl⟩
theorem scN_plain : FnScope ["self"] ["self"] (defScope sN_plain) := ⟨rfl, rfl, rfl, by decide +kernel, rfl, by decide +kernel, by decide +kernel⟩
theorem ok_n_plain {f C : Addr} {fd : FuncData} (F : Fun K "plain" "Net.plain" sN_plain f fd) (C' : NetC K C) (mlist : mg "list" = none) : FnOk P w K mg base CX0 1 f fd ["self"] (spFldL K C "_plain") := by
  refine F.ok scN_plain (fun vs H Q E h => ?_) (fun cdv A outer s H vs Q E hr h => ?_)
  · obtain ⟨a, dx, p, fs, us, rfl, _⟩ := h
    rfl
  obtain ⟨a, dx, p, fs, us, rfl, ha, hf, hp, q⟩ := h
  refine ⟨_, (pss_one (ps_ret (pe_callTy call_list_of (by rfl) mlist (by decide +kernel) (pa_cons (pe_fld (pv 0) rfl) pa_nil)))), ?_⟩
  exact ⟨_, rfl, a, C, dx, fs, _, rfl, ha, C'.cl, C'.m, hf, p, us, rfl, .inl (SqL.of hp), fun l hl => q l hl⟩
theorem scN_wires : FnScope ["self", "part"] ["self"] (defScope sN_wires) := ⟨rfl, rfl, rfl, by decide +kernel, rfl, by decide +kernel, by decide +kernel⟩
theorem ok_n_wires {f C : Addr} {fd : FuncData} (F : Fun K "wires" "Net.wires" sN_wires f fd) (C' : NetC K C) : FnOk P w K mg base CX0 1 f fd ["self"] (spStrOf C "_plain" wiresP) := by
  refine F.ok scN_wires (fun vs H Q E h => ?_) (fun cdv A outer s H vs Q E hr h => ?_)
  · obtain ⟨a, dx, p, fs, us, ps, rfl, _⟩ := h
    rfl
  obtain ⟨a, dx, p, fs, us, ps, rfl, ha, hf, pa, q⟩ := h
  have pl := pa.l
  refine ⟨_, (pss_one (ps_ret (pe_lc (own := [("part", 1)]) (g := (gName 1)) rfl scN_wires.nd (pi_list (pe_fld (pv 0) rfl)) (blkOk_by (own := [("part", 1)]) (N := ["self", "part"]) (sc := defScope sN_wires) (by decide +kernel)) (fun _ _ _ _ _ => (pg_name (i := 1) scN_wires.nd rfl (Or.inl rfl) (Or.inr rfl))) (fun _ _ _ _ _ => pts_nil) (fun _ _ _ _ _ => (pe_ix (ixT (K := K) rfl) (pv 1) pe_int (fun _ _ => rfl)))))), ?_⟩
  refine ⟨_, rfl, a, C, dx, fs, _, rfl, ha, C'.cl, C'.m, hf, p, rfl, ⟨_, SqL.of pa.at_⟩, fun l hl => ?_⟩
  refine lc_list (xs := us) (fun i H2 => Same H H2 ∧ H2 l = some (.lst ((wiresP (ps.take i)).map V.str))) ⟨same_upd hl _, upd_same⟩ (fun i H2 _ h => SqL.of (h.1 _ _ pa.at_)) (fun i x H2 hx ⟨s2, hl2⟩ => ?_) (fun H2 ⟨s2, hl2⟩ => ?_)
  · obtain ⟨pp, hp, pt, _⟩ := (pa.same s2).nth hx
    obtain ⟨b, r, rfl, hb⟩ := pt.two
    have hi := (List.getElem?_eq_some_iff.mp hp).1
    refine ⟨rfl, _, rfl, b, _, 1, _, rfl, rfl, SqT.of hb, atI_nat (j := 1) rfl, _, hl2, ?_, fun c oc hc => ?_, ?_⟩
    · rw [List.length_map, List.length_map]
      exact small1000 (Nat.le_trans (List.length_take_le _ _) (by omega))
    · rw [upd_ne (ne_of_none hc hl)]
      exact s2 _ _ hc
    · rw [upd_same, List.take_add_one, hp]
      simp
  · rw [pa.all.1, List.take_length] at hl2
    exact q l H2 s2 hl hl2
def sourcesP (ps : List Pt) : List Str := (ps.filter fun p => decide (kindP p = "source")).map Pw
theorem scN_sources : FnScope ["self", "part"] ["self"] (defScope sN_sources) := ⟨rfl, rfl, rfl, by decide +kernel, rfl, by decide +kernel, by decide +kernel⟩
theorem ok_n_sources {f C : Addr} {fd : FuncData} (F : Fun K "sources" "Net.sources" sN_sources f fd) (C' : NetC K C) : FnOk P w K mg base CX0 1 f fd ["self"] (spStrOf C "_parts" sourcesP) := by
  refine F.ok scN_sources (fun vs H Q E h => ?_) (fun cdv A outer s H vs Q E hr h => ?_)
  · obtain ⟨a, dx, p, fs, us, ps, rfl, _⟩ := h
    rfl
  obtain ⟨a, dx, p, fs, us, ps, rfl, ha, hf, pa, q⟩ := h
  have pl := pa.l
  refine ⟨_, (pss_one (ps_ret (pe_lc (own := [("part", 1)]) (g := (gName 1)) rfl scN_sources.nd (pi_list (pe_fld (pv 0) rfl)) (blkOk_by (own := [("part", 1)]) (N := ["self", "part"]) (sc := defScope sN_sources) (by decide +kernel)) (fun _ _ _ _ _ => (pg_name (i := 1) scN_sources.nd rfl (Or.inl rfl) (Or.inr rfl))) (fun _ _ _ _ _ => (pts_one (pt_cmpR op_eq (pe_ix (ixT (K := K) rfl) (pv 1) pe_int (fun _ _ => rfl)) pe_str (nomark _)))) (fun _ _ _ _ _ => (pe_ix (ixT (K := K) rfl) (pv 1) pe_int (fun _ _ => rfl)))))), ?_⟩
  refine ⟨_, rfl, a, C, dx, fs, _, rfl, ha, C'.cl, C'.p, hf, p, rfl, ⟨_, SqL.of pa.at_⟩, fun l hl => ?_⟩
  refine lc_list (xs := us) (fun i H2 => Same H H2 ∧ H2 l = some (.lst ((sourcesP (ps.take i)).map V.str))) ⟨same_upd hl _, upd_same⟩ (fun i H2 _ h => SqL.of (h.1 _ _ pa.at_)) (fun i x H2 hx ⟨s2, hl2⟩ => ?_) (fun H2 ⟨s2, hl2⟩ => ?_)
  · obtain ⟨pp, hp, pt, _⟩ := (pa.same s2).nth hx
    obtain ⟨b, r, rfl, hb⟩ := pt.two
    have hi := (List.getElem?_eq_some_iff.mp hp).1
    have e : ps.take (i + 1) = ps.take i ++ [pp] := by rw [List.take_add_one, hp]; rfl
    refine ⟨rfl, _, rfl, b, _, 0, _, rfl, rfl, SqT.of hb, atI_nat (j := 0) rfl, rfl, _, rfl, ?_⟩
    by_cases hk : kindP pp = "source"
    · rw [decide_eq_true (by rw [hk])]
      refine iteT ⟨_, rfl, b, _, 1, _, rfl, rfl, SqT.of hb, atI_nat (j := 1) rfl, _, hl2, ?_, fun c oc hc => ?_, ?_⟩
      · unfold sourcesP
        rw [List.length_map, List.length_map]
        exact small1000 (Nat.le_trans (Nat.le_trans (List.length_filter_le _ _) (List.length_take_le _ _)) (by omega))
      · rw [upd_ne (ne_of_none hc hl)]
        exact s2 _ _ hc
      · rw [upd_same, e]
        unfold sourcesP
        rw [List.filter_append, List.filter_cons_of_pos (by simpa using hk), List.map_append, List.map_append]
        rfl
    · rw [decide_eq_false (fun z => hk (V.str.inj z))]
      refine iteF ⟨s2, ?_⟩
      rw [hl2, e]
      unfold sourcesP
      rw [List.filter_append, List.filter_cons_of_neg (by simpa using hk)]
      simp
  · rw [pa.all.1, List.take_length] at hl2
    exact q l H2 s2 hl hl2
theorem scN_boxes : FnScope ["self"] ["self"] (defScope sN_boxes) := ⟨rfl, rfl, rfl, by decide +kernel, rfl, by decide +kernel, by decide +kernel⟩
theorem ok_n_boxes {f C fb : Addr} {fd db : FuncData} (F : Fun K "boxes" "Net.boxes" sN_boxes f fd) (C' : NetC K C) (GB : Df P w K mg base 1 fb db "boxes_in" ["plain"] spBoxesIn) : FnOk P w K mg base CX0 2 f fd ["self"] (spBoxesM C) := by
  refine F.ok scN_boxes (fun vs H Q E h => ?_) (fun cdv A outer s H vs Q E hr h => ?_)
  · obtain ⟨a, dx, p, fs, us, ps, rfl, _⟩ := h
    rfl
  obtain ⟨a, dx, p, fs, us, ps, rfl, ha, hf, pa, q⟩ := h
  refine ⟨_, (pss_one (ps_ret (pe_call GB.ok (hr.mono (by decide)) (by rfl) GB.m GB.kp GB.b .nil pass0 (pa_cons (pe_fld (pv 0) rfl) pa_nil)))), ?_⟩
  exact ⟨_, rfl, a, C, dx, fs, _, rfl, ha, C'.cl, C'.m, hf, p, us, ps, rfl, pa, q⟩
end
end Un
namespace Un
open PySem L2 TL
section
variable {P : Program} {w : World} {K : PySem.W.Frag} {mg : Str → Option Value} {base : Heap}
/-! ### a net is made -/
/-- a dict comprehension over a list that stays -/
theorem dc_lst {K : PySem.W.Frag} {a : Addr} {xs : List V} {g : TG} {tt : TT} {tk tv : TE} {vs : List Nat} {σ : L2.St} {H1 : Hp} {D : Addr} {Qd : Hp → Prop} (Pv : Nat → Hp → Prop) (h0 : Pv 0 (upd H1 D (.dK []))) (hl : ∀ i H, i ≤ xs.length → Pv i H → SqL K H a xs)
    (hs : ∀ i x H, xs[i]? = some x → Pv i H → g x (wipe σ vs) H fun σ2 H2 => wipe σ2 vs = wipe σ vs ∧ tt σ2 H2 fun b H3 =>
      if b = true then tk σ2 H3 fun y H4 => tv σ2 H4 fun z H5 => ∃ kvs k, y = kV k ∧ H5 D = some (.dK kvs) ∧ kvs.length < sizeLine ∧ Pv (i + 1) (upd H5 D (.dK (putK kvs k z))) else Pv (i + 1) H3) (hd : ∀ H, Pv xs.length H → Qd H) :
    ∃ W : Nat → Nat → Hp → Prop, (∃ m, W 0 m (upd H1 D (.dK []))) ∧ ∀ i m H, W i m H →
      ((Itl K a).stop i H ∧ Qd H) ∨ ((Itl K a).go i H ∧ ∃ Nx : Hp → Prop, (∀ H', Nx H' → ∃ m', m' < m ∧ W (i + 1) m' H') ∧ ∀ x H', (Itl K a).yld i H x H' → g x (wipe σ vs) H' fun σ2 H2 => wipe σ2 vs = wipe σ vs ∧ tt σ2 H2 fun b H3 =>
        if b = true then tk σ2 H3 fun y H4 => tv σ2 H4 fun z H5 => ∃ kvs k, y = kV k ∧ H5 D = some (.dK kvs) ∧ kvs.length < sizeLine ∧ Nx (upd H5 D (.dK (putK kvs k z))) else Nx H3) := by
  refine ⟨fun i m H => m = xs.length - i ∧ i ≤ xs.length ∧ Pv i H, ⟨xs.length, by simp, Nat.zero_le _, h0⟩, ?_⟩
  rintro i m H ⟨rfl, hi, p⟩
  have q := hl i H hi p
  by_cases hlt : i < xs.length
  · refine .inr ⟨⟨xs, xs[i], q, by simp [hlt]⟩, Pv (i + 1), fun H' p' => ⟨xs.length - (i + 1), by omega, rfl, hlt, p'⟩, fun x H' y => ?_⟩
    obtain ⟨e, y⟩ := y
    subst e
    exact hs i x _ (y xs q) p
  · have e : i = xs.length := by omega
    subst e
    exact .inl ⟨⟨xs, q, Nat.le_refl _⟩, hd H p⟩
def graphP (ps : List Pt) : List (Str × List Str) := ps.map fun p => (Pw p, leadsP p)
theorem graphP_keys (ps : List Pt) : (graphP ps).map (·.1) = wiresP ps := by
  unfold graphP
  rw [List.map_map]
  rfl
structure NetOk (ps : List Pt) (os : List Str) : Prop where
  ok : ∀ p ∈ ps, PlP p
  l : ps.length ≤ 16
  nd : (wiresP ps).Nodup
  known : ∀ p ∈ ps, ∀ e ∈ endsP p, e ∈ wiresP ps
  oso : OsOk os
  outs : ∀ z ∈ os, z ∈ wiresP ps
  src : (sourcesP ps).length ≤ 4
  box : (boxesP ps).length ≤ 8
  ag : Agree (boxesP ps)
  ring : ∀ z, ¬ Rch (graphP ps) z z
theorem NetOk.gok {ps : List Pt} {os : List Str} (h : NetOk ps os) : GOk (graphP ps) := by
  refine ⟨by rw [graphP_keys]; exact h.nd, fun z ls hz => ?_, by unfold graphP; rw [List.length_map]; have := h.l; omega⟩
  obtain ⟨p, hp, e⟩ := List.mem_map.mp (lkp_mem hz)
  cases e
  refine ⟨leads_len (h.ok p hp).sm, fun y hy => ?_⟩
  rw [graphP_keys]
  exact h.known p hp y (leads_sub y hy)
theorem entries_none {H : Hp} : ∀ {kvs : List (Key × V)} {G : List (Str × List Str)} {z : Str}, All2 (EntryAt H) kvs G → z ∉ G.map (·.1) → valV kvs (Sum.inr z) = none
  | [], _, z, _, _ => rfl
  | kv :: kvs, [], z, a, _ => by cases a.1
  | kv :: kvs, g :: G, z, a, h => by
    have h0 := a.2 0 kv g rfl rfl
    rw [valV_neg (by rw [h0.1]; exact fun e => h (List.mem_map.mpr ⟨g, List.mem_cons_self, Sum.inr.inj e⟩))]
    exact entries_none a.tail.2 fun m => h (by
      obtain ⟨x, hx, e⟩ := List.mem_map.mp m
      exact List.mem_map.mpr ⟨x, List.mem_cons_of_mem _ hx, e⟩)
abbrev netFs (p o d m : Addr) : List (Str × V) := [("_parts", .ref p), ("_outs", .ref o), ("_pieces", .ref d), ("_plain", .ref m)]
/-- a net with no uses stands at a -/
structure NetAt (H : Hp) (C a : Addr) (us : List V) (ps : List Pt) (os : List Str) : Prop where
  ex : ∃ dx p o d m, H a = some (.ins C dx (netFs p o d m)) ∧ H p = some (.lst us) ∧ H o = some (.lst (os.map V.str)) ∧ H d = some (.dK []) ∧ H m = some (.lst us)
  all : All2 (PtAt H) us ps
  ok : NetOk ps os
def spNetI (C : Addr) : Sp := fun vs H Q _ => ∃ (a dx px py : Addr) (us : List V) (ps : List Pt) (os : List Str), vs = [.ref a, .ref px, .ref py, .non] ∧ H a = some (.ins C dx []) ∧ (H px = some (.lst us) ∨ H px = some (.tup us)) ∧ All2 (PtAt H) us ps ∧ (H py = some (.lst (os.map V.str)) ∨ H py = some (.tup (os.map V.str))) ∧ NetOk ps os ∧
  ∀ H', Kp a H H' → NetAt H' C a us ps os → Q .non H'
structure NiTxt (mg : Str → Option Value) : Prop where
  list : mg "list" = none
  dict : mg "dict" = none
  len : mg "len" = none
  src : ∃ t, mg "MOST_SOURCES" = some (.int 4 t)
  wir : ∃ t, mg "MOST_WIRES" = some (.int 24 t)
abbrev netPs : List Str := ["self", "parts", "outs", "pieces"]
theorem scN_init : FnScope ["self", "parts", "outs", "pieces", "at", "part", "place"] ["self", "parts", "outs", "pieces"] (defScope sN_init) := ⟨rfl, rfl, rfl, by decide +kernel, rfl, by decide +kernel, by decide +kernel⟩
theorem kp_old {a : Addr} {H H' : Hp} (k : Kp a H H') {b : Addr} {o : HO} (h : H b = some o) (n : b ≠ a) : H' b = some o := k b o h n
theorem ok_n_init {f C fp fo fw fu ff fk fr fl fs fb : Addr} {fd dp d_o dw du df dk dr dl ds db : FuncData} {dvs : List V} {kws : List (Str × V)} (F : FunD K "__init__" "Net.__init__" (defArgs sN_init) (defBody sN_init) (defScope sN_init) dvs kws f fd) (C' : NetC K C) (T : NetTxt K w mg) (N : NiTxt mg)
    (GP : Df P w K mg base 5 fp dp "is_part" ["value"] spIsPart) (GO : Df P w K mg base 2 fo d_o "check_outs" ["outs"] spCkOuts) (GW : Df P w K mg base 2 fw dw "check_wires" ["parts", "outs"] spCkWires) (GU : Df P w K mg base 1 fu du "check_uses" ["parts", "pieces"] spCkUses)
    (GF : Df P w K mg base 1 ff df "plain_of" ["parts", "pieces"] spPlainOf) (GK : Df P w K mg base 1 fk dk "check_kinds" ["boxes"] spCkKinds) (GR : Df P w K mg base 2 fr dr "first_on_ring" ["leads"] spFirst) (GL : Df P w K mg base 2 fl dl "leads_of" ["part"] (spStrs leadsP))
    (MS : Mt P w K mg base C 1 fs ds "sources" ["self"] (spStrOf C "_parts" sourcesP)) (MB : Mt P w K mg base C 2 fb db "boxes" ["self"] (spBoxesM C)) :
    FnOk P w K mg base CX0 6 f fd netPs (spNetI C) := by
  refine F.ok scN_init (fun vs H Q E h => ?_) (fun cdv A outer s H vs Q E hr h => ?_)
  · obtain ⟨a, dx, px, py, us, ps, os, rfl, _⟩ := h
    rfl
  obtain ⟨a, dx, px, py, us, ps, os, rfl, ha, hpx, hA, hpy, nk, q⟩ := h
  obtain ⟨ts, msrc⟩ := N.src
  obtain ⟨tw, mwir⟩ := N.wir
  obtain ⟨um, hmost⟩ := C'.most
  obtain ⟨ub, hbox⟩ := C'.boxes
  have npx : px ≠ a := by rcases hpx with h | h <;> exact ne_of h ha (by intro z; cases z)
  have npy : py ≠ a := by rcases hpy with h | h <;> exact ne_of h ha (by intro z; cases z)
  refine ⟨_, PSs.nox (pss_cons (ps_fld (pv 0) (pe_callTy call_list_of (by rfl) N.list (by decide +kernel) (pa_cons (pv 1) pa_nil)) rfl)
 (pss_cons (ps_fld (pv 0) (pe_callTy call_list_of (by rfl) N.list (by decide +kernel) (pa_cons (pv 2) pa_nil)) rfl)
 (pss_cons (ps_fld (pv 0) (pe_ifExp (pt_cmpR op_isN (pv 3) pe_non (nomark _)) pe_dnewK (pe_callTy call_dictD (by rfl) N.dict (by decide +kernel) (pa_cons (pv 3) pa_nil))) rfl)
 (pss_cons (ps_for PassesOwn.never rfl (pi_enum (by rfl) T.enum (pa_cons (pe_fld (pv 0) rfl) pa_nil)) (pg_tup (by rfl) (pgs_cons (pg_name (i := 4) scN_init.nd rfl (by first | exact Or.inl rfl | exact Or.inr rfl)) (pgs_cons (pg_name (i := 5) scN_init.nd rfl (by first | exact Or.inl rfl | exact Or.inr rfl)) pgs_nil)))
 (pss_one (ps_if (pt_not (pt_val (pe_call GP.ok (hr.mono (by decide)) (by rfl) GP.m GP.kp GP.b .nil pass0 (pa_cons (pv 5) pa_nil))))
 pss_never
 pss_nil)))
 (pss_cons (ps_if (pt_cmpR op_gt (pe_callB call_len_seq (by rfl) N.len PySem.boot_len (pa_cons (pe_fld (pv 0) rfl) pa_nil)) (pe_con (pv 0) rfl) (nomark _))
 pss_never
 pss_nil)
 (pss_cons (ps_expr (pe_call GO.ok (hr.mono (by decide)) (by rfl) GO.m GO.kp GO.b .nil pass0 (pa_cons (pe_fld (pv 0) rfl) pa_nil)))
 (pss_cons (ps_expr (pe_call GW.ok (hr.mono (by decide)) (by rfl) GW.m GW.kp GW.b .nil pass0 (pa_cons (pe_fld (pv 0) rfl) (pa_cons (pe_fld (pv 0) rfl) pa_nil))))
 (pss_cons (ps_if (pt_cmpR op_gt (pe_callB call_len_seq (by rfl) N.len PySem.boot_len (pa_cons (pe_meth0 (pv 0) C'.cl MS.mt MS.ok (hr.mono (by decide)) MS.b .nil pass0) pa_nil)) (pe_glob (v := .int 4) (by rfl) msrc ⟨_, rfl⟩) (nomark _))
 pss_never
 pss_nil)
 (pss_cons (ps_expr (pe_call GU.ok (hr.mono (by decide)) (by rfl) GU.m GU.kp GU.b .nil pass0 (pa_cons (pe_fld (pv 0) rfl) (pa_cons (pe_fld (pv 0) rfl) pa_nil))))
 (pss_cons (ps_fld (pv 0) (pe_call GF.ok (hr.mono (by decide)) (by rfl) GF.m GF.kp GF.b .nil pass0 (pa_cons (pe_fld (pv 0) rfl) (pa_cons (pe_fld (pv 0) rfl) pa_nil))) rfl)
 (pss_cons (ps_if (pt_cmpR op_gt (pe_callB call_len_seq (by rfl) N.len PySem.boot_len (pa_cons (pe_fld (pv 0) rfl) pa_nil)) (pe_glob (v := .int 24) (by rfl) mwir ⟨_, rfl⟩) (nomark _))
 pss_never
 pss_nil)
 (pss_cons (ps_if (pt_cmpR op_gt (pe_callB call_len_seq (by rfl) N.len PySem.boot_len (pa_cons (pe_meth0 (pv 0) C'.cl MB.mt MB.ok (hr.mono (by decide)) MB.b .nil pass0) pa_nil)) (pe_con (pv 0) rfl) (nomark _))
 pss_never
 pss_nil)
 (pss_cons (ps_expr (pe_call GK.ok (hr.mono (by decide)) (by rfl) GK.m GK.kp GK.b .nil pass0 (pa_cons (pe_meth0 (pv 0) C'.cl MB.mt MB.ok (hr.mono (by decide)) MB.b .nil pass0) pa_nil)))
 (pss_cons (ps_set (i := 6) scN_init.nd rfl (by first | exact Or.inl rfl | exact Or.inr rfl) (pe_call GR.ok (hr.mono (by decide)) (by rfl) GR.m GR.kp GR.b .nil pass0 (pa_cons (pe_dc (own := [("part", 5)]) (g := (gName 5)) rfl scN_init.nd (pi_list (pe_fld (pv 0) rfl)) (blkOk_by (own := [("part", 5)]) (N := ["self", "parts", "outs", "pieces", "at", "part", "place"]) (sc := defScope sN_init) (by decide +kernel)) (fun _ _ _ _ _ => (pg_name (i := 5) scN_init.nd rfl (Or.inl rfl) (Or.inr rfl))) (fun _ _ _ _ _ => pts_nil) (fun _ _ _ _ _ => (pe_ix (ixT (K := K) rfl) (pv 5) pe_int (fun _ _ => rfl))) (fun _ _ _ _ _ => (pe_call GL.ok (hr.mono (by decide)) (by rfl) GL.m GL.kp GL.b .nil pass0 (pa_cons (pv 5) pa_nil)))) pa_nil)))
 (pss_one (ps_if (pt_cmpR op_notN (pv 6) pe_non (nomark _))
 pss_never
 pss_nil)))))))))))))))), ?_⟩
  -- the fields
  refine ⟨_, rfl, px, us, rfl, hpx.elim (fun h => .inl (SqL.of h)) (fun h => .inr (SqT.of h)), fun p hp => ?_⟩
  have nap : a ≠ p := ne_of_none ha hp
  refine ⟨_, rfl, a, C, dx, [], rfl, by rw [upd_ne nap]; exact ha, C'.cl, C'.p, (by show (0 : Nat) < 1000; decide), ?_⟩
  generalize hH1 : upd (upd H p (.lst us)) a (.ins C dx (putF "_parts" (.ref p) [])) = H1
  have k1 : Kp a H H1 := fun b ob hb n => by
    rw [← hH1, upd_ne n, upd_ne (ne_of_none hb hp)]
    exact hb
  have a1 : H1 a = some (.ins C dx [("_parts", .ref p)]) := by rw [← hH1]; exact upd_same
  have p1 : H1 p = some (.lst us) := by rw [← hH1, upd_ne nap.symm]; exact upd_same
  have hpy1 : H1 py = some (.lst (os.map V.str)) ∨ H1 py = some (.tup (os.map V.str)) := hpy.elim (fun h => .inl (k1 _ _ h npy)) (fun h => .inr (k1 _ _ h npy))
  refine ⟨_, rfl, py, os.map V.str, rfl, hpy1.elim (fun h => .inl (SqL.of h)) (fun h => .inr (SqT.of h)), fun o ho => ?_⟩
  have nao : a ≠ o := ne_of_none a1 ho
  have npo : p ≠ o := ne_of_none p1 ho
  refine ⟨_, rfl, a, C, dx, _, rfl, by rw [upd_ne nao]; exact a1, C'.cl, C'.o, (by show (1 : Nat) < 1000; decide), ?_⟩
  generalize hH2 : upd (upd H1 o (.lst (os.map V.str))) a (.ins C dx (putF "_outs" (.ref o) [("_parts", .ref p)])) = H2
  have k2 : Kp a H1 H2 := fun b ob hb n => by
    rw [← hH2, upd_ne n, upd_ne (ne_of_none hb ho)]
    exact hb
  have a2 : H2 a = some (.ins C dx [("_parts", .ref p), ("_outs", .ref o)]) := by rw [← hH2]; exact upd_same
  have p2 : H2 p = some (.lst us) := k2 _ _ p1 nap.symm
  have o2 : H2 o = some (.lst (os.map V.str)) := by rw [← hH2, upd_ne nao.symm]; exact upd_same
  refine ⟨_, rfl, rfl, _, rfl, iteT ?_⟩
  intro d hd
  have nad : a ≠ d := ne_of_none a2 hd
  refine ⟨_, rfl, a, C, dx, _, rfl, by rw [upd_ne nad]; exact a2, C'.cl, C'.d, (by show (2 : Nat) < 1000; decide), ?_⟩
  generalize hH3 : upd (upd H2 d (.dK [])) a (.ins C dx (putF "_pieces" (.ref d) [("_parts", .ref p), ("_outs", .ref o)])) = H3
  have k3 : Kp a H2 H3 := fun b ob hb n => by
    rw [← hH3, upd_ne n, upd_ne (ne_of_none hb hd)]
    exact hb
  have a3 : H3 a = some (.ins C dx [("_parts", .ref p), ("_outs", .ref o), ("_pieces", .ref d)]) := by rw [← hH3]; exact upd_same
  have p3 : H3 p = some (.lst us) := k3 _ _ p2 nap.symm
  have o3 : H3 o = some (.lst (os.map V.str)) := k3 _ _ o2 nao.symm
  have d3 : H3 d = some (.dK []) := by rw [← hH3, upd_ne nad.symm]; exact upd_same
  have k03 : Kp a H H3 := (k1.trans k2).trans k3
  have A3 : All2 (PtAt H3) us ps := hA.mono fun _ _ z => z.tups fun b xs hb => k03 _ _ hb (ne_of hb ha (by intro z; cases z))
  have pl := nk.l
  have pa3 : PsAt H3 p us ps := ⟨p3, A3, nk.ok, by omega⟩
  -- the parts, one by one
  refine ⟨_, rfl, a, C, dx, _, _, rfl, a3, C'.cl, C'.p, rfl, p, us, rfl, SqL.of p3, ?_⟩
  refine for_it walk_enum (fun i σ H4 => (∃ v4 v5 v6, σ = [some (.ref a), some (.ref px), some (.ref py), some .non, v4, v5, v6]) ∧ Same H3 H4) ⟨⟨_, _, _, rfl⟩, Same.refl _⟩ (fun i σ H4 _ h => SqL.of (h.2 _ _ p3)) ?_ ?_
  · rintro i v σ H4 H5 hi ⟨⟨v4, v5, v6, rfl⟩, s4⟩ ⟨t, x, y, rfl, ht, rfl, hx, hy⟩
    cases hx
    have hy : us[i]? = some y := hy
    have s5 := s4.trans (same_upd ht (.tup [.int i, y]))
    obtain ⟨pp, hp', pt, pl'⟩ := (pa3.same s5).nth hy
    refine ⟨t, _, rfl, SqT.of upd_same, rfl, _, _, rfl, _, _, rfl, rfl, ?_⟩
    refine ⟨_, rfl, y, pp, rfl, pt, pl'.ok, pl'.sm, pl'.nu, fun H6 s6 => ?_⟩
    exact ⟨_, rfl, iteF ⟨⟨_, _, _, rfl⟩, s5.trans s6⟩⟩
  rintro σ H4 ⟨⟨v4, v5, v6, rfl⟩, s4⟩
  have ln : us.length = ps.length := A3.1
  refine ⟨_, rfl, a, C, dx, _, _, rfl, s4 _ _ a3, C'.cl, C'.p, rfl, p, us, rfl, .inl (SqL.of (s4 _ _ p3)), _, rfl, a, C, dx, _, _, um, rfl, s4 _ _ a3, C'.cl, hmost, rfl, _, 16, rfl, rfl, _, rfl, ?_⟩
  rw [show decide (((us.length : Nat) : Int) > 16) = false from decide_eq_false (by omega)]
  refine iteF ?_
  refine ⟨_, rfl, a, C, dx, _, _, rfl, s4 _ _ a3, C'.cl, C'.o, rfl, o, os, rfl, s4 _ _ o3, nk.oso, fun H5 s5' => ?_⟩
  have s5 := s4.trans s5'
  refine ⟨_, rfl, a, C, dx, _, _, rfl, s5 _ _ a3, C'.cl, C'.p, rfl, _, rfl, a, C, dx, _, _, rfl, s5 _ _ a3, C'.cl, C'.o, rfl, p, o, us, ps, os, rfl, pa3.same s5, s5 _ _ o3, nk.nd, nk.known, nk.outs, fun H6 s6' => ?_⟩
  have s6 := s5.trans s6'
  refine ⟨_, rfl, a, dx, _, rfl, s6 _ _ a3, rfl, a, dx, p, _, us, ps, rfl, s6 _ _ a3, rfl, pa3.same s6, fun l H7 s7' hl hl7 => ?_⟩
  have s7 := s6.trans s7'
  refine ⟨l, _, rfl, .inl (SqL.of hl7), _, _, rfl, rfl, _, rfl, ?_⟩
  rw [show decide (((((sourcesP ps).map V.str).length : Nat) : Int) > 4) = false from decide_eq_false (by rw [List.length_map]; have := nk.src; omega)]
  refine iteF ?_
  refine ⟨_, rfl, a, C, dx, _, _, rfl, s7 _ _ a3, C'.cl, C'.p, rfl, _, rfl, a, C, dx, _, _, rfl, s7 _ _ a3, C'.cl, C'.d, rfl, p, us, ps, .ref d, rfl, pa3.same s7, fun H8 s8' => ?_⟩
  have s8 := s7.trans s8'
  refine ⟨_, rfl, a, C, dx, _, _, rfl, s8 _ _ a3, C'.cl, C'.p, rfl, _, rfl, a, C, dx, _, _, rfl, s8 _ _ a3, C'.cl, C'.d, rfl, p, us, ps, .ref d, rfl, pa3.same s8, fun m H9 s9' hm hm9 => ?_⟩
  have s9 := s8.trans s9'
  have nam : a ≠ m := ne_of_none (s8 _ _ a3) hm
  refine ⟨_, rfl, a, C, dx, _, rfl, s9 _ _ a3, C'.cl, C'.m, (by show (3 : Nat) < 1000; decide), ?_⟩
  generalize hH10 : upd H9 a (.ins C dx (putF "_plain" (.ref m) [("_parts", .ref p), ("_outs", .ref o), ("_pieces", .ref d)])) = H10
  have k10 : Kp a H9 H10 := fun b ob hb n => by
    rw [← hH10, upd_ne n]
    exact hb
  have a10 : H10 a = some (.ins C dx (netFs p o d m)) := by rw [← hH10]; exact upd_same
  have p10 : H10 p = some (.lst us) := k10 _ _ (s9 _ _ p3) nap.symm
  have o10 : H10 o = some (.lst (os.map V.str)) := k10 _ _ (s9 _ _ o3) nao.symm
  have d10 : H10 d = some (.dK []) := k10 _ _ (s9 _ _ d3) nad.symm
  have m10 : H10 m = some (.lst us) := k10 _ _ hm9 nam.symm
  have A10 : All2 (PtAt H10) us ps := (A3.mono fun _ _ z => z.tups (Same.tups s9)).mono fun _ _ z => z.tups fun b xs hb => k10 _ _ hb (ne_of hb (s9 _ _ a3) (by intro z; cases z))
  have pam : PsAt H10 m us ps := ⟨m10, A10, nk.ok, by omega⟩
  have k010 : Kp a H H10 := (k03.trans (Same.kp s9)).trans k10
  -- the plain net
  refine ⟨_, rfl, a, C, dx, _, _, rfl, a10, C'.cl, C'.m, rfl, m, us, rfl, .inl (SqL.of m10), _, _, rfl, rfl, _, rfl, ?_⟩
  rw [show decide (((us.length : Nat) : Int) > 24) = false from decide_eq_false (by omega)]
  refine iteF ?_
  refine ⟨_, rfl, a, dx, _, rfl, a10, rfl, a, dx, m, _, us, ps, rfl, a10, rfl, pam, fun l2 bs H11 s11 hl2 hl11 hb11 => ?_⟩
  refine ⟨l2, _, rfl, .inl (SqL.of hl11), _, rfl, a, C, dx, _, _, ub, rfl, s11 _ _ a10, C'.cl, hbox, rfl, _, 8, rfl, rfl, _, rfl, ?_⟩
  rw [show decide (((bs.length : Nat) : Int) > 8) = false from decide_eq_false (by rw [hb11.1]; have := nk.box; omega)]
  refine iteF ?_
  refine ⟨_, rfl, a, dx, _, rfl, s11 _ _ a10, rfl, a, dx, m, _, us, ps, rfl, s11 _ _ a10, rfl, pam.same s11, fun l3 bs3 H12 s12' hl3 hl12 hb12 => ?_⟩
  have s12 := s11.trans s12'
  refine ⟨l3, bs3, boxesP ps, rfl, hl12, hb12, by have := nk.box; omega, nk.ag, fun H13 s13' => ?_⟩
  have s13 := s12.trans s13'
  -- no ring
  refine ⟨_, rfl, a, C, dx, _, _, rfl, s13 _ _ a10, C'.cl, C'.m, rfl, m, rfl, ⟨_, SqL.of (s13 _ _ m10)⟩, fun D hD => ?_⟩
  refine dc_lst (xs := us) (fun i H2 => Same H13 H2 ∧ ∃ kvs, H2 D = some (.dK kvs) ∧ All2 (EntryAt H2) kvs (graphP (ps.take i))) ⟨same_upd hD _, [], upd_same, rfl, fun i u v hu => by cases hu⟩ (fun i H2 _ h => SqL.of (h.1 _ _ (s13 _ _ m10))) (fun i x H2 hx ⟨s2, kvs, hD2, hG2⟩ => ?_) (fun H2 ⟨s2, kvs, hD2, hG2⟩ => ?_)
  · obtain ⟨pp, hpp, pt, pok⟩ := (pam.same (s13.trans s2)).nth hx
    obtain ⟨b, r, rfl, hb⟩ := pt.two
    have hi := (List.getElem?_eq_some_iff.mp hpp).1
    have tk : ps.take (i + 1) = ps.take i ++ [pp] := by rw [List.take_add_one, hpp]; rfl
    refine ⟨rfl, _, rfl, b, _, 1, _, rfl, rfl, SqT.of hb, atI_nat (j := 1) rfl, _, rfl, .ref b, pp, rfl, pt, pok.ok, pok.sm, pok.nu, fun l4 H4 s4 hl4 hl44 => ?_⟩
    have hw : (wiresP ps)[i]? = some (Pw pp) := by rw [List.getElem?_map, hpp]; rfl
    have hn : Pw pp ∉ (graphP (ps.take i)).map (·.1) := by
      rw [graphP_keys]
      have := nd_take nk.nd hw
      rw [← List.map_take] at this
      exact this
    have G4 : All2 (EntryAt H4) kvs (graphP (ps.take i)) := hG2.mono fun _ _ z => z.same s4
    refine ⟨kvs, Sum.inr (Pw pp), rfl, s4 _ _ hD2, ?_, fun c oc hc => ?_, kvs ++ [(Sum.inr (Pw pp), .ref l4)], ?_, ?_⟩
    · rw [hG2.1]
      unfold graphP
      rw [List.length_map]
      exact small1000 (Nat.le_trans (List.length_take_le _ _) (by omega))
    · rw [upd_ne (ne_of_none hc hD)]
      exact s4 _ _ (s2 _ _ hc)
    · rw [upd_same, putK_new _ (entries_none G4 hn)]
    · have nD : ∀ {e : Addr} {xs : List V}, H4 e = some (.lst xs) → e ≠ D := fun he => ne_of he (s4 _ _ hD2) (by intro z; cases z)
      rw [tk]
      unfold graphP
      rw [List.map_append]
      refine All2.snoc (G4.mono fun kv g z => ?_) ⟨rfl, l4, rfl, by rw [upd_ne (nD hl44)]; exact hl44⟩
      obtain ⟨e1, l, e2, hl⟩ := z
      exact ⟨e1, l, e2, by rw [upd_ne (nD hl)]; exact hl⟩
  rw [A10.1, List.take_length] at hG2
  refine ⟨D, kvs, graphP ps, rfl, hD2, hG2, nk.gok, fun v H14 s14 fst => ?_⟩
  have hv : v = .non := by
    rcases fst with ⟨e, _⟩ | ⟨i, z, hz, r, _⟩
    · exact e
    · exact absurd r (nk.ring z)
  subst hv
  have s15 := (s13.trans s2).trans s14
  refine ⟨_, rfl, rfl, _, rfl, iteF ?_⟩
  exact q H14 (k010.trans (Same.kp s15)) ⟨⟨dx, p, o, d, m, s15 _ _ a10, s15 _ _ p10, s15 _ _ o10, s15 _ _ d10, s15 _ _ m10⟩, A10.mono fun _ _ z => z.tups (Same.tups s15), nk⟩
end
end Un
namespace Un
open PySem L2 TL
section
variable {P : Program} {w : World} {K : PySem.W.Frag} {mg : Str → Option Value} {base : Heap}
/-! ### the drawn parts, more closely -/
/-- what one drawn part that is no source holds -/
structure FromP (es ws : List Str) (fs : List (Str × Str)) (p : Pt) : Prop where
  ends : ∀ z ∈ endsP p, z ∈ es ∨ z ∈ ws
  leads : ∀ z ∈ leadsP p, z ∈ es
  box : ∀ x ∈ boxP p, (x.2.1, x.2.2) ∈ fs ∧ es ≠ []
  nu : notUse p
  ns : ¬ kindP p = "source"
theorem any_mem {H : Hp} {b c u : Addr} {us : List Str} {Q : VK} (B : Bag H b c) (hu : NmL H b u us) (h0 : 0 < us.length) (q : ∀ (a : Str) (H' : Hp), IsNm a ∧ a ∈ us → Bag H' b c → Kp b H H' → Q (.str a) H') : spAny K [.ref b, .ref u] H Q E0 :=
  ⟨b, c, .ref u, us.map V.str, rfl, B, hu.menu, by rw [List.length_map]; exact h0, by rw [List.length_map]; have := hu.l; omega, fun y H4 hy B4 k4 => by
    obtain ⟨a, ha, rfl⟩ := List.mem_map.mp hy
    exact q a H4 ⟨hu.nm a ha, ha⟩ B4 k4⟩
def SmT2 (es ws : List Str) (t : Tm) : Prop := (SmT t ∧ IsNm t.a) ∧ (t.a ∈ es ∨ t.a ∈ ws) ∧ (t.d = 0 → t.a ∈ es)
def spTerm2 : Sp := fun vs H Q _ => ∃ (b c e v : Addr) (es ws : List Str), vs = [.ref b, .ref e, .ref v] ∧ Bag H b c ∧ NmL H b e es ∧ NmL H b v ws ∧ 0 < ws.length ∧
  ∀ (x : V) (t : Tm) (H' : Hp), TmAt H' x t → SmT2 es ws t → Bag H' b c → Kp b H H' → Q x H'
theorem kinds_ns {k : Str} (h : k ∈ kinds4) : ¬ k = "source" := by
  simp only [List.mem_cons, List.not_mem_nil, or_false] at h
  rcases h with rfl | rfl | rfl | rfl <;> decide
def spPart2 : Sp := fun vs H Q _ => ∃ (b c e v x : Addr) (wire : Str) (es ws : List Str) (bs : List V) (fs : List (Str × Str)), vs = [.ref b, .str wire, .ref e, .ref v, .ref x] ∧ Bag H b c ∧ IsNm wire ∧ NmL H b e es ∧ NmL H b v ws ∧ 0 < ws.length ∧ BxL H b x bs fs ∧
  ∀ (y : V) (p : Pt) (H' : Hp), PtAt H' y p → SmP p → OkP p → Pw p = wire → FromP es ws fs p → Bag H' b c → Kp b H H' → Q y H'
/-- the part at place i of what is drawn -/
def DrawnAt (k : Nat) (ws : List Str) (fs : List (Str × Str)) (i : Nat) (p : Pt) : Prop := (SmP p ∧ OkP p) ∧ ws[i]? = some (Pw p) ∧ ((i < k ∧ p = .flat "source" (Pw p) []) ∨ (k ≤ i ∧ FromP (ws.take i) ws fs p))
theorem idx_snoc {R : Nat → Pt → Prop} {ps : List Pt} {p : Pt} (h : ∀ j q, ps[j]? = some q → R j q) (hp : R ps.length p) : ∀ j q, (ps ++ [p])[j]? = some q → R j q := by
  intro j q hq
  rw [List.getElem?_append] at hq
  by_cases lt : j < ps.length
  · rw [if_pos lt] at hq
    exact h j q hq
  · rw [if_neg lt] at hq
    cases e : j - ps.length with
    | zero =>
      rw [e] at hq
      cases hq
      have : j = ps.length := by omega
      rw [this]
      exact hp
    | succ n => rw [e] at hq; cases hq
def spParts2 : Sp := fun vs H Q _ => ∃ (b c a x : Addr) (k : Int) (ws : List Str) (bs : List V) (fs : List (Str × Str)), vs = [.ref b, .ref a, .int k, .ref x] ∧ Bag H b c ∧ NmL H b a ws ∧ 0 ≤ k ∧ k ≤ 100 ∧ BxL H b x bs fs ∧
  ∀ (l : Addr) (us : List V) (ps : List Pt) (H' : Hp), l ≠ b → H' l = some (.lst us) → All2 (PtAt H') us ps → (∀ i p, ps[i]? = some p → DrawnAt k.toNat ws fs i p) → ps.length = ws.length → Bag H' b c → Kp b H H' → Q (.ref l) H'
end
end Un
namespace Un
open PySem L2 TL
section
variable {P : Program} {w : World} {K : PySem.W.Frag} {mg : Str → Option Value} {base : Heap}
/-! ### drawn names are different -/
def ltr (f1 : Int) (j : Nat) : Nat := letters.cps.toList.getD ((f1 + 7 * (0 + (j : Int))) % 26).toNat 0
def nmTl (cs : List Nat) (a1 f1 : Int) (j : Nat) : List Nat := cs.take a1.toNat ++ [ltr f1 j] ++ cs.drop a1.toNat
theorem ltr_inj {f1 : Int} {j k : Nat} (hj : j < 26) (hk : k < 26) (h : ltr f1 j = ltr f1 k) : j = k := by
  have all : ∀ a b : Fin 26, letters.cps.toList.getD a.val 0 = letters.cps.toList.getD b.val 0 → a = b := by decide +kernel
  have a0 : 0 ≤ (f1 + 7 * (0 + (j : Int))) % 26 := Int.emod_nonneg _ (by decide)
  have a1 : (f1 + 7 * (0 + (j : Int))) % 26 < 26 := Int.emod_lt_of_pos _ (by decide)
  have b0 : 0 ≤ (f1 + 7 * (0 + (k : Int))) % 26 := Int.emod_nonneg _ (by decide)
  have b1 : (f1 + 7 * (0 + (k : Int))) % 26 < 26 := Int.emod_lt_of_pos _ (by decide)
  have e := all ⟨((f1 + 7 * (0 + (j : Int))) % 26).toNat, by omega⟩ ⟨((f1 + 7 * (0 + (k : Int))) % 26).toNat, by omega⟩ h
  have e2 := congrArg Fin.val e
  simp only at e2
  omega
theorem nmTl_inj {cs : List Nat} {a1 f1 : Int} {j k : Nat} (hj : j < 26) (hk : k < 26) (h : nmTl cs a1 f1 j = nmTl cs a1 f1 k) : j = k := by
  unfold nmTl at h
  have h1 := List.append_cancel_right h
  have h2 := List.append_cancel_left h1
  exact ltr_inj hj hk (List.cons.inj h2).1
theorem nd_of_tl {ws : List Str} {cs : List Nat} {a1 f1 : Int} (hl : ws.length ≤ 26) (h : ∀ j z, ws[j]? = some z → tl z = nmTl cs a1 f1 j) : ws.Nodup := by
  rw [List.nodup_iff_pairwise_ne, List.pairwise_iff_getElem]
  intro i j hi hj lt e
  have e1 := h i _ (List.getElem?_eq_getElem hi)
  have e2 := h j _ (List.getElem?_eq_getElem hj)
  rw [e] at e1
  have := nmTl_inj (by omega) (by omega) (e1.symm.trans e2)
  omega
theorem str_snoc {R : Nat → Str → Prop} {ps : List Str} {p : Str} (h : ∀ j q, ps[j]? = some q → R j q) (hp : R ps.length p) : ∀ j q, (ps ++ [p])[j]? = some q → R j q := by
  intro j q hq
  rw [List.getElem?_append] at hq
  by_cases lt : j < ps.length
  · rw [if_pos lt] at hq
    exact h j q hq
  · rw [if_neg lt] at hq
    cases e : j - ps.length with
    | zero =>
      rw [e] at hq
      cases hq
      have : j = ps.length := by omega
      rw [this]
      exact hp
    | succ n => rw [e] at hq; cases hq
def spNames2 : Sp := fun vs H Q _ => ∃ (b c : Addr) (many : Int), vs = [.ref b, .int many] ∧ Bag H b c ∧ 0 ≤ many ∧ many ≤ 26 ∧
  ∀ (l : Addr) (ws : List Str) (H' : Hp), (ws.length : Int) = many → (∀ z ∈ ws, IsNm z) → ws.Nodup → Bag H' b c → Kp b H H' → H l = none → H' l = some (.lst (ws.map V.str)) → Q (.ref l) H'
theorem ok_names2 {f gp ga : Addr} {fd gpd gad : FuncData} (F : Fun K "_law_names" "_law_names" sNames f fd) (GP : FnOk P w K mg base CX0 1 gp gpd ["_law_bag_here", "_law_many"] spPull) (bP : Binds K gpd ["_law_bag_here", "_law_many"] []) (kP : PySem.W.keepIn K (.ref gp) = true) (mP : mg "_law_pull" = some (.ref gp))
    (GA : FnOk P w K mg base CX0 2 ga gad ["_law_bag_here", "_law_things"] (spAny K)) (bA : Binds K gad ["_law_bag_here", "_law_things"] []) (kA : PySem.W.keepIn K (.ref ga) = true) (mA : mg "_law_any" = some (.ref ga)) (mlen : mg "len" = none) (mint : mg "int" = none) (mrange : mg "range" = none) :
    FnOk P w K mg base CX0 3 f fd ["_law_bag_here", "_law_many"] spNames2 := by
  refine F.ok scNames (fun vs H Q E h => ?_) (fun cdv A outer s H vs Q E hr h => ?_)
  · obtain ⟨b, c, many, rfl, _⟩ := h
    rfl
  obtain ⟨b, c, many, rfl, B, m0, m1, q⟩ := h
  have hr1 : Room 1 _ := hr.mono (by decide)
  refine ⟨_, pss_cons (ps_set (i := 2) scNames.nd rfl (Or.inr rfl) pe_str)
    (pss_cons (ps_set (i := 3) scNames.nd rfl (Or.inr rfl) (pe_join pe_str (pe_lc (own := [("_law_k", 6)]) (g := gName 6) rfl scNames.nd (pi_range1 (by rfl) mrange (pa_cons (pe_call GP hr1 (by rfl) mP kP bP .nil pass0 (pa_cons (pv 0) (pa_cons pe_int pa_nil))) pa_nil))
        (blkOk_by (own := [("_law_k", 6)]) (N := ["_law_bag_here", "_law_many", "_law_letters", "_law_stem", "_law_at", "_law_first", "_law_k"]) (sc := defScope sNames) (by decide +kernel))
        (fun _ _ _ _ _ => pg_name (i := 6) scNames.nd rfl (Or.inl rfl) (Or.inr rfl)) (fun _ _ _ _ _ => pts_nil)
        (fun _ _ _ _ _ => pe_call GA hr (by rfl) mA kA bA .nil pass0 (pa_cons (pv 0) (pa_cons (pv 2) pa_nil))))))
    (pss_cons (ps_asg (pe_tup (pa_cons (pe_call GP hr1 (by rfl) mP kP bP .nil pass0 (pa_cons (pv 0) (pa_cons (pe_op op_add (pe_callB call_len (by rfl) mlen PySem.boot_len (pa_cons (pv 3) pa_nil)) pe_int) pa_nil))) (pa_cons (pe_call GP hr1 (by rfl) mP kP bP .nil pass0 (pa_cons (pv 0) (pa_cons pe_int pa_nil))) pa_nil)))
        (pg_tup (n := 2) rfl (pgs_cons (pg_name (i := 4) scNames.nd rfl (Or.inr rfl) (Or.inl rfl)) (pgs_cons (pg_name (i := 5) scNames.nd rfl (Or.inr rfl) (Or.inl rfl)) pgs_nil))))
    (pss_one (ps_ret (pe_lc (own := [("_law_k", 6)]) (g := gName 6) rfl scNames.nd (pi_range1 (by rfl) mrange (pa_cons (pv 1) pa_nil))
        (blkOk_by (own := [("_law_k", 6)]) (N := ["_law_bag_here", "_law_many", "_law_letters", "_law_stem", "_law_at", "_law_first", "_law_k"]) (sc := defScope sNames) (by decide +kernel))
        (fun _ _ _ _ _ => pg_name (i := 6) scNames.nd rfl (Or.inl rfl) (Or.inr rfl)) (fun _ _ _ _ _ => pts_nil)
        (fun _ _ _ _ _ => pe_op op_add_str (pe_op op_add_str (pe_slice sl_str (pv 3) po_none (po_some (pv 4)))
          (pe_ix ix_str (pv 2) (pe_op op_mod (pe_callTy call_int1 (by rfl) mint (by decide +kernel) (pa_cons (pe_op op_add (pv 5) (pe_op op_mul pe_int (pv 6))) pa_nil)) pe_int) (fun _ _ => rfl)))
          (pe_slice sl_str (pv 3) (po_some (pv 4)) po_none))))))), ?_⟩
  -- the stem: letters drawn
  refine ⟨⟨_, rfl⟩, .ref b, rfl, b, c, 4, rfl, B, by decide, by decide, fun d H1 d0 d1 B1 k1 => ?_⟩
  refine ⟨d, rfl, by omega, by omega, fun D hD => ?_⟩
  have nD := B1.ne_new hD
  have hD0 : H D = none := k1.free B1 hD
  refine lc_range (lo := 0) (n := d.toNat) (fun i H2 => Bag H2 b c ∧ Kp b H H2 ∧ ∃ cs : List Nat, cs.length = i ∧ (∀ x ∈ cs, x ∈ letters.cps.toList) ∧ H2 D = some (.lst (cs.map fun x => V.str ⟨#[x]⟩)))
    ⟨B1.upd_new hD _, k1.new hD _, [], rfl, fun x hx => (nomatch hx), upd_same⟩ (fun i H2 hi ⟨B2, k2, cs, hl, hcs, hcD⟩ => ?_) (fun H2 ⟨B2, k2, cs, hl, hcs, hcD⟩ => ?_)
  · refine ⟨rfl, .ref b, rfl, .str letters, rfl, b, c, _, _, rfl, B2, .inr (.inr ⟨letters, rfl, by decide +kernel, rfl⟩), by decide +kernel, by decide +kernel, fun y H3 hy B3 k3 => ?_⟩
    obtain ⟨x, hx, rfl⟩ := List.mem_map.mp hy
    refine ⟨_, k3 _ _ hcD nD.1.symm, ?_, B3.wr nD _, (k2.trans k3).wr hD0 _, cs ++ [x], by rw [List.length_append, hl]; rfl, fun z hz => ?_, ?_⟩
    · rw [List.length_map, hl]
      exact small1000 (by omega)
    · rcases List.mem_append.mp hz with h | h
      · exact hcs z h
      · rw [List.mem_singleton.mp h]
        exact hx
    · rw [upd_same, List.map_append]
      rfl
  · have ey : (cs.map fun x => V.str ⟨#[x]⟩) = ((cs.map fun x => (⟨#[x]⟩ : Str)).map V.str) := by rw [List.map_map]; rfl
    have hlen : cs.length ≤ 3 := by omega
    have hsum : ∀ l : List Nat, ((l.map fun x => (⟨#[x]⟩ : Str)).map (·.length)).sum = l.length := by
      intro l
      induction l with
      | nil => rfl
      | cons x r ih =>
        rw [List.map_cons, List.map_cons, List.sum_cons, ih, List.length_cons]
        show 1 + r.length = _
        omega
    refine ⟨Str.empty, D, cs.map fun x => ⟨#[x]⟩, rfl, rfl, .inl (SqL.of (by rw [hcD, ey])), ?_, ?_⟩
    · rw [hsum]
      show cs.length + _ * 0 ≤ _
      omega
    generalize hst : Txt.join Str.empty (cs.map fun x => (⟨#[x]⟩ : Str)) = st
    have est : tl st = cs := by rw [← hst, glue_signs]
    have lst : st.length = cs.length := by rw [tlen, est]
    -- at, first
    refine ⟨.ref b, rfl, .str st, rfl, .str st, _, rfl, ⟨Nat.le_of_lt (small1000 (by omega)), rfl⟩, _, _, rfl, rfl, b, c, _, rfl, B2, by omega, by omega, fun a1 H3 a0 a1' B3 k3 => ?_⟩
    refine ⟨.ref b, rfl, b, c, 26, rfl, B3, by decide, by decide, fun f1 H4 f0 f1' B4 k4 => ?_⟩
    refine ⟨(by show 2 ≤ sizeLine; decide), fun t ht => ?_⟩
    refine ⟨t, _, rfl, SqT.of upd_same, rfl, _, _, rfl, _, _, rfl, rfl, ?_⟩
    have k5 : Kp b H (upd H4 t (.tup [.int a1, .int f1])) := ((k2.trans k3).trans k4).new ht _
    have B5 : Bag (upd H4 t (.tup [.int a1, .int f1])) b c := B4.upd_new ht _
    -- the names
    refine ⟨_, rfl, many, rfl, by omega, by omega, fun L hL => ?_⟩
    have nL := B5.ne_new hL
    have hL0 : H L = none := k5.free B5 hL
    refine lc_range (lo := 0) (n := many.toNat) (fun i H6 => Bag H6 b c ∧ Kp b H H6 ∧ ∃ ws : List Str, ws.length = i ∧ (∀ z ∈ ws, IsNm z) ∧ (∀ j z, ws[j]? = some z → tl z = nmTl cs a1 f1 j) ∧ H6 L = some (.lst (ws.map V.str)))
      ⟨B5.upd_new hL _, k5.new hL _, [], rfl, fun x hx => (nomatch hx), fun j x hx => (nomatch hx), upd_same⟩ (fun i H6 hi ⟨B6, k6, ws, hl6, hws, htl, hcL⟩ => ?_) (fun H6 ⟨B6, k6, ws, hl6, hws, htl, hcL⟩ => ?_)
    · have hstl : st.length ≤ sizeLine := Nat.le_of_lt (small1000 (by omega))
      have ha0 : (0 : Int) ≤ a1 := a0
      have ha1 : a1 ≤ (st.length : Int) := by omega
      have hm0 : 0 ≤ (f1 + 7 * (0 + (i : Int))) % 26 := Int.emod_nonneg _ (by decide)
      have hm1 : (f1 + 7 * (0 + (i : Int))) % 26 < 26 := Int.emod_lt_of_pos _ (by decide)
      obtain ⟨x, hx', hxe⟩ : ∃ x, (atI letters.cps.toList ((f1 + 7 * (0 + (i : Int))) % 26) = some x ∧ x ∈ letters.cps.toList) ∧ x = ltr f1 i := by
        have hlt : ((f1 + 7 * (0 + (i : Int))) % 26).toNat < letters.cps.toList.length := by
          rw [show letters.cps.toList.length = 26 by decide +kernel]
          omega
        have e : atI letters.cps.toList ((((f1 + 7 * (0 + (i : Int))) % 26).toNat : Nat) : Int) = some letters.cps.toList[((f1 + 7 * (0 + (i : Int))) % 26).toNat] := atI_nat (by rw [List.getElem?_eq_getElem hlt])
        rw [Int.toNat_of_nonneg hm0] at e
        exact ⟨_, ⟨e, List.getElem_mem hlt⟩, by unfold ltr; rw [List.getD_eq_getElem?_getD, List.getElem?_eq_getElem hlt]; rfl⟩
      have hx := hx'
      refine ⟨rfl, .str st, rfl, .int a1, rfl, a1, rfl, st, rfl, hstl, ?_⟩
      refine ⟨.str letters, rfl, .int f1, rfl, .int (0 + (i : Int)), rfl, 7, _, rfl, rfl, .inl ⟨by decide, by decide⟩, _, _, rfl, rfl, .inl ⟨_, rfl, _, 26, rfl, rfl, (by show (0 : Int) < 26; decide), ?_⟩⟩
      refine ⟨letters, _, x, rfl, rfl, by decide +kernel, hx.1, ?_⟩
      have hc1 := cutS_length st none (some a1)
      have hc2 := cutS_length st (some a1) none
      have h1000 : (1000 : Nat) ≤ sizeLine := by decide
      have hx1 : (⟨#[x]⟩ : Str).length = 1 := rfl
      refine ⟨_, _, rfl, rfl, by rw [hx1]; omega, ?_⟩
      refine ⟨.str st, rfl, .int a1, rfl, a1, rfl, st, rfl, hstl, ?_⟩
      have hl1 : (cutS st none (some a1) ++ (⟨#[x]⟩ : Str)).length = (cutS st none (some a1)).length + 1 := by rw [Str.length_append, hx1]
      refine ⟨_, _, rfl, rfl, by rw [hl1]; omega, ?_⟩
      have htn : tl (cutS st none (some a1) ++ (⟨#[x]⟩ : Str) ++ cutS st (some a1) none) = nmTl cs a1 f1 i := by
        rw [tl_append, tl_append, tl_cut_to st a1 ha0 ha1, tl_cut_from st a1 ha0 ha1, est]
        unfold nmTl
        rw [← hxe]
      have hnm : IsNm (cutS st none (some a1) ++ (⟨#[x]⟩ : Str) ++ cutS st (some a1) none) := by
        have e : tl (cutS st none (some a1) ++ (⟨#[x]⟩ : Str) ++ cutS st (some a1) none) = cs.take a1.toNat ++ [x] ++ cs.drop a1.toNat := by
          rw [tl_append, tl_append, tl_cut_to st a1 ha0 ha1, tl_cut_from st a1 ha0 ha1, est]
        have el : (cutS st none (some a1) ++ (⟨#[x]⟩ : Str) ++ cutS st (some a1) none).length = cs.length + 1 := by
          rw [tlen, e, List.length_append, List.length_append, List.length_take, List.length_drop]
          show min a1.toNat cs.length + 1 + (cs.length - a1.toNat) = cs.length + 1
          omega
        refine ⟨fun y hy => ?_, by omega, by omega⟩
        rw [e] at hy
        rcases List.mem_append.mp hy with hy | hy
        · rcases List.mem_append.mp hy with hy | hy
          · exact hcs y (List.mem_of_mem_take hy)
          · rw [List.mem_singleton.mp hy]
            exact hx.2
        · exact hcs y (List.mem_of_mem_drop hy)
      refine ⟨_, hcL, ?_, B6.wr nL _, k6.wr hL0 _, ws ++ [cutS st none (some a1) ++ (⟨#[x]⟩ : Str) ++ cutS st (some a1) none], by rw [List.length_append, hl6]; rfl, fun z hz => ?_, str_snoc htl (by rw [hl6]; exact htn), ?_⟩
      · rw [List.length_map, hl6]
        exact small1000 (by omega)
      · rcases List.mem_append.mp hz with h | h
        · exact hws z h
        · rw [List.mem_singleton.mp h]
          exact hnm
      · rw [upd_same, List.map_append]
        rfl
    · exact q L ws H6 (by omega) hws (nd_of_tl (by omega) htl) B6 k6 hL0 hcL
/-! ### nets of drawn parts -/
structure NetM (ps : List Pt) (k : Nat) : Prop where
  ok : ∀ p ∈ ps, PlP p
  nd : (wiresP ps).Nodup
  known : ∀ p ∈ ps, ∀ e ∈ endsP p, e ∈ wiresP ps
  src : (sourcesP ps).length ≤ k
  box : (boxesP ps).length ≤ 8
  ag : Agree (boxesP ps)
  rk : ∃ r : Str → Nat, ∀ p ∈ ps, ∀ y ∈ leadsP p, r y < r (Pw p)
theorem NetM.perm {ps qs : List Pt} {k : Nat} (h : NetM ps k) (e : qs.Perm ps) : NetM qs k := by
  have ew : (wiresP qs).Perm (wiresP ps) := e.map _
  have eb : (boxesP qs).Perm (boxesP ps) := e.flatMap_right _
  have es : (sourcesP qs).Perm (sourcesP ps) := (e.filter _).map _
  obtain ⟨r, hr⟩ := h.rk
  exact ⟨fun p hp => h.ok p (e.mem_iff.mp hp), ew.nodup_iff.mpr h.nd, fun p hp y hy => ew.mem_iff.mpr (h.known p (e.mem_iff.mp hp) y hy), by rw [es.length_eq]; exact h.src, by rw [eb.length_eq]; exact h.box,
    fun x hx y hy => h.ag x (eb.mem_iff.mp hx) y (eb.mem_iff.mp hy), r, fun p hp => hr p (e.mem_iff.mp hp)⟩
theorem NetM.net {ps : List Pt} {os : List Str} {k : Nat} (h : NetM ps k) (hk : k ≤ 4) (hl : ps.length ≤ 16) (ho : OsOk os) (hw : ∀ z ∈ os, z ∈ wiresP ps) : NetOk ps os := by
  obtain ⟨r, hr⟩ := h.rk
  refine ⟨h.ok, hl, h.nd, h.known, ho, hw, Nat.le_trans h.src hk, h.box, h.ag, no_ring r fun z ls hz y hy => ?_⟩
  obtain ⟨p, hp, e⟩ := List.mem_map.mp (lkp_mem hz)
  cases e
  exact hr p hp y hy
/-- parts in another order -/
theorem all2_perm {α β : Type} {R : α → β → Prop} {us vs : List α} (e : vs.Perm us) : ∀ {ps : List β}, All2 R us ps → ∃ qs, qs.Perm ps ∧ All2 R vs qs := by
  have toL : ∀ {us : List α} {ps : List β}, All2 R us ps → ∃ l : List (α × β), us = l.map (·.1) ∧ ps = l.map (·.2) ∧ ∀ x ∈ l, R x.1 x.2 := by
    intro us
    induction us with
    | nil => intro ps h; cases ps with
      | nil => exact ⟨[], rfl, rfl, fun x hx => nomatch hx⟩
      | cons p ps => cases h.1
    | cons u us ih => intro ps h; cases ps with
      | nil => cases h.1
      | cons p ps =>
        obtain ⟨l, e1, e2, e3⟩ := ih (All2.tail h).2
        exact ⟨(u, p) :: l, by rw [e1]; rfl, by rw [e2]; rfl, fun x hx => (List.mem_cons.mp hx).elim (fun z => by rw [z]; exact (All2.tail h).1) (e3 x)⟩
  intro ps h
  obtain ⟨l, rfl, rfl, e3⟩ := toL h
  have : ∃ m : List (α × β), m.Perm l ∧ vs = m.map (·.1) := by
    have go : ∀ {xs ys : List α}, xs.Perm ys → ∀ l : List (α × β), ys = l.map (·.1) → ∃ m : List (α × β), m.Perm l ∧ xs = m.map (·.1) := by
      intro xs ys p
      induction p with
      | nil => intro l e; exact ⟨l, .refl _, e⟩
      | cons x p ih =>
        intro l e
        cases l with
        | nil => cases e
        | cons y l =>
          obtain ⟨h1, h2⟩ := List.cons.inj e
          obtain ⟨m, hm, em⟩ := ih l h2
          exact ⟨y :: m, hm.cons y, by rw [em, h1]; rfl⟩
      | swap x y l' =>
        intro l e
        match l, e with
        | a :: b :: l, e =>
          obtain ⟨h1, h2⟩ := List.cons.inj e
          obtain ⟨h3, h4⟩ := List.cons.inj h2
          exact ⟨b :: a :: l, .swap _ _ _, by rw [h1, h3, h4]; rfl⟩
      | trans p q ih1 ih2 =>
        intro l e
        obtain ⟨m, hm, em⟩ := ih2 l e
        obtain ⟨n, hn, en⟩ := ih1 m em
        exact ⟨n, hn.trans hm, en⟩
    exact go e l rfl
  obtain ⟨m, hm, rfl⟩ := this
  refine ⟨m.map (·.2), hm.map _, by rw [List.length_map, List.length_map], fun i x y hx hy => ?_⟩
  rw [List.getElem?_map] at hx hy
  cases e : m[i]? with
  | none => rw [e] at hx; cases hx
  | some z =>
    rw [e] at hx hy
    cases hx
    cases hy
    exact e3 z (hm.mem_iff.mp (List.mem_of_getElem? e))
/-- what `_law_parts` draws is a net, in any order -/
theorem drawn_net {ps : List Pt} {ws : List Str} {fs : List (Str × Str)} {k : Nat} (hd : ∀ i p, ps[i]? = some p → DrawnAt k ws fs i p) (hl : ps.length = ws.length) (nd : ws.Nodup) (l9 : ws.length ≤ 9) (fsn : ∀ x ∈ fs, ∀ y ∈ fs, x.2 = y.2 → x.1 = y.1) : NetM ps k ∧ wiresP ps = ws := by
  have ew : wiresP ps = ws := by
    apply List.ext_getElem?
    intro i
    rw [List.getElem?_map]
    cases e : ps[i]? with
    | none =>
      have := List.getElem?_eq_none_iff.mp e
      rw [List.getElem?_eq_none (by omega)]
      rfl
    | some p => exact (hd i p e).2.1.symm
  have at_ : ∀ p ∈ ps, ∃ i, ps[i]? = some p ∧ DrawnAt k ws fs i p := fun p hp => by
    obtain ⟨i, hi⟩ := List.getElem?_of_mem hp
    exact ⟨i, hi, hd i p hi⟩
  have tk : ∀ {i : Nat} {z : Str}, z ∈ ws.take i → z ∈ ws := fun h => List.mem_of_mem_take h
  refine ⟨⟨fun p hp => ?_, by rw [ew]; exact nd, fun p hp y hy => ?_, ?_, ?_, fun x hx y hy e => ?_, fun z => ws.idxOf z, fun p hp y hy => ?_⟩, ew⟩
  · obtain ⟨i, hi, ⟨sm, ok⟩, hw, h⟩ := at_ p hp
    rcases h with ⟨_, e⟩ | ⟨_, f⟩
    · exact ⟨ok, sm, by rw [e]; trivial⟩
    · exact ⟨ok, sm, f.nu⟩
  · rw [ew]
    obtain ⟨i, hi, ⟨sm, ok⟩, hw, h⟩ := at_ p hp
    rcases h with ⟨_, e⟩ | ⟨_, f⟩
    · rw [e] at hy
      cases hy
    · exact (f.ends y hy).elim tk id
  · unfold sourcesP
    rw [List.length_map]
    have : ps = ps.take k ++ ps.drop k := (List.take_append_drop k ps).symm
    rw [this, List.filter_append, List.length_append]
    have h0 : (ps.drop k).filter (fun p => decide (kindP p = "source")) = [] := by
      rw [List.filter_eq_nil_iff]
      intro p hp
      obtain ⟨j, hj⟩ := List.getElem?_of_mem hp
      rw [List.getElem?_drop] at hj
      obtain ⟨_, _, h⟩ := hd _ _ hj
      rcases h with ⟨lt, _⟩ | ⟨_, f⟩
      · omega
      · simpa using f.ns
    rw [h0]
    exact Nat.le_trans (Nat.add_le_add_right (List.length_filter_le _ _) _) (by rw [List.length_take]; simp; omega)
  · cases ps with
    | nil => exact Nat.zero_le _
    | cons p r =>
      have h0 : boxP p = [] := by
        obtain ⟨_, _, h⟩ := hd 0 p rfl
        rcases h with ⟨_, e⟩ | ⟨_, f⟩
        · rw [e]
          rfl
        · cases eb : boxP p with
          | nil => rfl
          | cons x xs => exact absurd rfl (f.box x (by rw [eb]; exact List.mem_cons_self)).2
      show (boxP p ++ boxesP r).length ≤ 8
      rw [h0, List.nil_append]
      have := boxesP_len r
      rw [List.length_cons] at hl
      omega
  · have mem : ∀ x ∈ boxesP ps, (x.2.1, x.2.2) ∈ fs := fun x hx => by
      obtain ⟨p, hp, hx⟩ := List.mem_flatMap.mp hx
      obtain ⟨i, hi, _, hw, h⟩ := at_ p hp
      rcases h with ⟨_, e⟩ | ⟨_, f⟩
      · rw [e] at hx
        cases hx
      · exact (f.box x hx).1
    exact fsn _ (mem x hx) _ (mem y hy) e
  · obtain ⟨i, hi, _, hw, h⟩ := at_ p hp
    rcases h with ⟨_, e⟩ | ⟨_, f⟩
    · rw [e] at hy
      cases hy
    · have hy' := f.leads y hy
      obtain ⟨hil, hie⟩ := List.getElem?_eq_some_iff.mp hw
      have e1 : ws.idxOf (Pw p) = i := by rw [← hie]; exact nd.idxOf_getElem i hil
      obtain ⟨j, hj⟩ := List.getElem?_of_mem hy'
      rw [List.getElem?_take] at hj
      split at hj
      · rename_i lt
        obtain ⟨hjl, hje⟩ := List.getElem?_eq_some_iff.mp hj
        have e2 : ws.idxOf y = j := by rw [← hje]; exact nd.idxOf_getElem j hjl
        show ws.idxOf y < ws.idxOf (Pw p)
        rw [e1, e2]
        exact lt
      · cases hj
end
end Un
namespace Un
open PySem L2 TL
section
variable {P : Program} {w : World} {K : PySem.W.Frag} {mg : Str → Option Value} {base : Heap}
/-! ### errors that are raised -/
open XV
def spI1 (C : Addr) (c f : Str) : Sp := fun vs H Q _ => ∃ a x, vs = [.ref a, x] ∧ H a = some (exo a C none) ∧ ∀ d H', H d = none → d ≠ a → H' a = some (exo a C (some d)) → H' d = some (exd d [(f, x), ("code", .str c)]) → (∀ b o, H b = some o → b ≠ a → H' b = some o) → Q .non H'
def spI2 (C : Addr) (c f g : Str) : Sp := fun vs H Q _ => ∃ a x y, vs = [.ref a, x, y] ∧ H a = some (exo a C none) ∧ ∀ d H', H d = none → d ≠ a → H' a = some (exo a C (some d)) → H' d = some (exd d [(g, y), (f, x), ("code", .str c)]) → (∀ b o, H b = some o → b ≠ a → H' b = some o) → Q .non H'
abbrev sEInvalidPart : Stmt := inClass (top 3) 0
theorem scEInvalidPart : FnScope ["self", "at"] ["self", "at"] (defScope sEInvalidPart) := ⟨rfl, rfl, rfl, by decide +kernel, rfl, by decide +kernel, by decide +kernel⟩
theorem ok_eInvalidPart {f C : Addr} {fd : FuncData} (F : Fun K "__init__" "InvalidPart.__init__" sEInvalidPart f fd) (T : OexG K C) (n0 : PySem.W.findIn K (.ref C) "code" = some none) (n1 : PySem.W.findIn K (.ref C) "at" = some none) : FnOk P w K mg base CX0 1 f fd ["self", "at"] (spI1 C "InvalidPart" "at") := by
  refine F.ok scEInvalidPart (fun vs H Q E h => ?_) (fun cdv A outer s H vs Q E hr h => ?_)
  · obtain ⟨a, x, rfl, _⟩ := h
    rfl
  obtain ⟨a, x, rfl, ha, q⟩ := h
  refine ⟨_, pss_cons (ps_ostG (pv 0) pe_str) (pss_one (ps_ostG (pv 0) (pv 1))), ?_⟩
  refine ⟨_, rfl, a, C, rfl, T, n0, .inl ⟨ha, fun d hd nd => ?_⟩⟩
  have na : a ≠ d := Ne.symm nd
  refine ⟨_, rfl, _, rfl, a, C, rfl, T, n1, .inr ⟨d, _, upd_same, by rw [upd_ne nd, upd_same], (by show 1 ≤ 900; decide), ?_⟩⟩
  refine q d _ hd nd (by rw [upd_ne na, upd_same]) upd_same fun b o e nb => ?_
  rw [upd_ne (ne_of_none e hd), upd_ne nb, upd_ne (ne_of_none e hd)]
  exact e
abbrev sEInvalidOuts : Stmt := inClass (top 4) 0
theorem scEInvalidOuts : FnScope ["self", "at"] ["self", "at"] (defScope sEInvalidOuts) := ⟨rfl, rfl, rfl, by decide +kernel, rfl, by decide +kernel, by decide +kernel⟩
theorem ok_eInvalidOuts {f C : Addr} {fd : FuncData} (F : Fun K "__init__" "InvalidOuts.__init__" sEInvalidOuts f fd) (T : OexG K C) (n0 : PySem.W.findIn K (.ref C) "code" = some none) (n1 : PySem.W.findIn K (.ref C) "at" = some none) : FnOk P w K mg base CX0 1 f fd ["self", "at"] (spI1 C "InvalidOuts" "at") := by
  refine F.ok scEInvalidOuts (fun vs H Q E h => ?_) (fun cdv A outer s H vs Q E hr h => ?_)
  · obtain ⟨a, x, rfl, _⟩ := h
    rfl
  obtain ⟨a, x, rfl, ha, q⟩ := h
  refine ⟨_, pss_cons (ps_ostG (pv 0) pe_str) (pss_one (ps_ostG (pv 0) (pv 1))), ?_⟩
  refine ⟨_, rfl, a, C, rfl, T, n0, .inl ⟨ha, fun d hd nd => ?_⟩⟩
  have na : a ≠ d := Ne.symm nd
  refine ⟨_, rfl, _, rfl, a, C, rfl, T, n1, .inr ⟨d, _, upd_same, by rw [upd_ne nd, upd_same], (by show 1 ≤ 900; decide), ?_⟩⟩
  refine q d _ hd nd (by rw [upd_ne na, upd_same]) upd_same fun b o e nb => ?_
  rw [upd_ne (ne_of_none e hd), upd_ne nb, upd_ne (ne_of_none e hd)]
  exact e
abbrev sEInvalidUse : Stmt := inClass (top 5) 0
theorem scEInvalidUse : FnScope ["self", "at"] ["self", "at"] (defScope sEInvalidUse) := ⟨rfl, rfl, rfl, by decide +kernel, rfl, by decide +kernel, by decide +kernel⟩
theorem ok_eInvalidUse {f C : Addr} {fd : FuncData} (F : Fun K "__init__" "InvalidUse.__init__" sEInvalidUse f fd) (T : OexG K C) (n0 : PySem.W.findIn K (.ref C) "code" = some none) (n1 : PySem.W.findIn K (.ref C) "at" = some none) : FnOk P w K mg base CX0 1 f fd ["self", "at"] (spI1 C "InvalidUse" "at") := by
  refine F.ok scEInvalidUse (fun vs H Q E h => ?_) (fun cdv A outer s H vs Q E hr h => ?_)
  · obtain ⟨a, x, rfl, _⟩ := h
    rfl
  obtain ⟨a, x, rfl, ha, q⟩ := h
  refine ⟨_, pss_cons (ps_ostG (pv 0) pe_str) (pss_one (ps_ostG (pv 0) (pv 1))), ?_⟩
  refine ⟨_, rfl, a, C, rfl, T, n0, .inl ⟨ha, fun d hd nd => ?_⟩⟩
  have na : a ≠ d := Ne.symm nd
  refine ⟨_, rfl, _, rfl, a, C, rfl, T, n1, .inr ⟨d, _, upd_same, by rw [upd_ne nd, upd_same], (by show 1 ≤ 900; decide), ?_⟩⟩
  refine q d _ hd nd (by rw [upd_ne na, upd_same]) upd_same fun b o e nb => ?_
  rw [upd_ne (ne_of_none e hd), upd_ne nb, upd_ne (ne_of_none e hd)]
  exact e
abbrev sEDuplicateName : Stmt := inClass (top 7) 0
theorem scEDuplicateName : FnScope ["self", "name"] ["self", "name"] (defScope sEDuplicateName) := ⟨rfl, rfl, rfl, by decide +kernel, rfl, by decide +kernel, by decide +kernel⟩
theorem ok_eDuplicateName {f C : Addr} {fd : FuncData} (F : Fun K "__init__" "DuplicateName.__init__" sEDuplicateName f fd) (T : OexG K C) (n0 : PySem.W.findIn K (.ref C) "code" = some none) (n1 : PySem.W.findIn K (.ref C) "name" = some none) : FnOk P w K mg base CX0 1 f fd ["self", "name"] (spI1 C "DuplicateName" "name") := by
  refine F.ok scEDuplicateName (fun vs H Q E h => ?_) (fun cdv A outer s H vs Q E hr h => ?_)
  · obtain ⟨a, x, rfl, _⟩ := h
    rfl
  obtain ⟨a, x, rfl, ha, q⟩ := h
  refine ⟨_, pss_cons (ps_ostG (pv 0) pe_str) (pss_one (ps_ostG (pv 0) (pv 1))), ?_⟩
  refine ⟨_, rfl, a, C, rfl, T, n0, .inl ⟨ha, fun d hd nd => ?_⟩⟩
  have na : a ≠ d := Ne.symm nd
  refine ⟨_, rfl, _, rfl, a, C, rfl, T, n1, .inr ⟨d, _, upd_same, by rw [upd_ne nd, upd_same], (by show 1 ≤ 900; decide), ?_⟩⟩
  refine q d _ hd nd (by rw [upd_ne na, upd_same]) upd_same fun b o e nb => ?_
  rw [upd_ne (ne_of_none e hd), upd_ne nb, upd_ne (ne_of_none e hd)]
  exact e
abbrev sEUnlikeKinds : Stmt := inClass (top 8) 0
theorem scEUnlikeKinds : FnScope ["self", "name"] ["self", "name"] (defScope sEUnlikeKinds) := ⟨rfl, rfl, rfl, by decide +kernel, rfl, by decide +kernel, by decide +kernel⟩
theorem ok_eUnlikeKinds {f C : Addr} {fd : FuncData} (F : Fun K "__init__" "UnlikeKinds.__init__" sEUnlikeKinds f fd) (T : OexG K C) (n0 : PySem.W.findIn K (.ref C) "code" = some none) (n1 : PySem.W.findIn K (.ref C) "name" = some none) : FnOk P w K mg base CX0 1 f fd ["self", "name"] (spI1 C "UnlikeKinds" "name") := by
  refine F.ok scEUnlikeKinds (fun vs H Q E h => ?_) (fun cdv A outer s H vs Q E hr h => ?_)
  · obtain ⟨a, x, rfl, _⟩ := h
    rfl
  obtain ⟨a, x, rfl, ha, q⟩ := h
  refine ⟨_, pss_cons (ps_ostG (pv 0) pe_str) (pss_one (ps_ostG (pv 0) (pv 1))), ?_⟩
  refine ⟨_, rfl, a, C, rfl, T, n0, .inl ⟨ha, fun d hd nd => ?_⟩⟩
  have na : a ≠ d := Ne.symm nd
  refine ⟨_, rfl, _, rfl, a, C, rfl, T, n1, .inr ⟨d, _, upd_same, by rw [upd_ne nd, upd_same], (by show 1 ≤ 900; decide), ?_⟩⟩
  refine q d _ hd nd (by rw [upd_ne na, upd_same]) upd_same fun b o e nb => ?_
  rw [upd_ne (ne_of_none e hd), upd_ne nb, upd_ne (ne_of_none e hd)]
  exact e
abbrev sERing : Stmt := inClass (top 9) 0
theorem scERing : FnScope ["self", "place"] ["self", "place"] (defScope sERing) := ⟨rfl, rfl, rfl, by decide +kernel, rfl, by decide +kernel, by decide +kernel⟩
theorem ok_eRing {f C : Addr} {fd : FuncData} (F : Fun K "__init__" "Ring.__init__" sERing f fd) (T : OexG K C) (n0 : PySem.W.findIn K (.ref C) "code" = some none) (n1 : PySem.W.findIn K (.ref C) "place" = some none) : FnOk P w K mg base CX0 1 f fd ["self", "place"] (spI1 C "Ring" "place") := by
  refine F.ok scERing (fun vs H Q E h => ?_) (fun cdv A outer s H vs Q E hr h => ?_)
  · obtain ⟨a, x, rfl, _⟩ := h
    rfl
  obtain ⟨a, x, rfl, ha, q⟩ := h
  refine ⟨_, pss_cons (ps_ostG (pv 0) pe_str) (pss_one (ps_ostG (pv 0) (pv 1))), ?_⟩
  refine ⟨_, rfl, a, C, rfl, T, n0, .inl ⟨ha, fun d hd nd => ?_⟩⟩
  have na : a ≠ d := Ne.symm nd
  refine ⟨_, rfl, _, rfl, a, C, rfl, T, n1, .inr ⟨d, _, upd_same, by rw [upd_ne nd, upd_same], (by show 1 ≤ 900; decide), ?_⟩⟩
  refine q d _ hd nd (by rw [upd_ne na, upd_same]) upd_same fun b o e nb => ?_
  rw [upd_ne (ne_of_none e hd), upd_ne nb, upd_ne (ne_of_none e hd)]
  exact e
abbrev sEUnknownName : Stmt := inClass (top 12) 0
theorem scEUnknownName : FnScope ["self", "name"] ["self", "name"] (defScope sEUnknownName) := ⟨rfl, rfl, rfl, by decide +kernel, rfl, by decide +kernel, by decide +kernel⟩
theorem ok_eUnknownName {f C : Addr} {fd : FuncData} (F : Fun K "__init__" "UnknownName.__init__" sEUnknownName f fd) (T : OexG K C) (n0 : PySem.W.findIn K (.ref C) "code" = some none) (n1 : PySem.W.findIn K (.ref C) "name" = some none) : FnOk P w K mg base CX0 1 f fd ["self", "name"] (spI1 C "UnknownName" "name") := by
  refine F.ok scEUnknownName (fun vs H Q E h => ?_) (fun cdv A outer s H vs Q E hr h => ?_)
  · obtain ⟨a, x, rfl, _⟩ := h
    rfl
  obtain ⟨a, x, rfl, ha, q⟩ := h
  refine ⟨_, pss_cons (ps_ostG (pv 0) pe_str) (pss_one (ps_ostG (pv 0) (pv 1))), ?_⟩
  refine ⟨_, rfl, a, C, rfl, T, n0, .inl ⟨ha, fun d hd nd => ?_⟩⟩
  have na : a ≠ d := Ne.symm nd
  refine ⟨_, rfl, _, rfl, a, C, rfl, T, n1, .inr ⟨d, _, upd_same, by rw [upd_ne nd, upd_same], (by show 1 ≤ 900; decide), ?_⟩⟩
  refine q d _ hd nd (by rw [upd_ne na, upd_same]) upd_same fun b o e nb => ?_
  rw [upd_ne (ne_of_none e hd), upd_ne nb, upd_ne (ne_of_none e hd)]
  exact e
abbrev sEUnknownPiece : Stmt := inClass (top 13) 0
theorem scEUnknownPiece : FnScope ["self", "piece"] ["self", "piece"] (defScope sEUnknownPiece) := ⟨rfl, rfl, rfl, by decide +kernel, rfl, by decide +kernel, by decide +kernel⟩
theorem ok_eUnknownPiece {f C : Addr} {fd : FuncData} (F : Fun K "__init__" "UnknownPiece.__init__" sEUnknownPiece f fd) (T : OexG K C) (n0 : PySem.W.findIn K (.ref C) "code" = some none) (n1 : PySem.W.findIn K (.ref C) "piece" = some none) : FnOk P w K mg base CX0 1 f fd ["self", "piece"] (spI1 C "UnknownPiece" "piece") := by
  refine F.ok scEUnknownPiece (fun vs H Q E h => ?_) (fun cdv A outer s H vs Q E hr h => ?_)
  · obtain ⟨a, x, rfl, _⟩ := h
    rfl
  obtain ⟨a, x, rfl, ha, q⟩ := h
  refine ⟨_, pss_cons (ps_ostG (pv 0) pe_str) (pss_one (ps_ostG (pv 0) (pv 1))), ?_⟩
  refine ⟨_, rfl, a, C, rfl, T, n0, .inl ⟨ha, fun d hd nd => ?_⟩⟩
  have na : a ≠ d := Ne.symm nd
  refine ⟨_, rfl, _, rfl, a, C, rfl, T, n1, .inr ⟨d, _, upd_same, by rw [upd_ne nd, upd_same], (by show 1 ≤ 900; decide), ?_⟩⟩
  refine q d _ hd nd (by rw [upd_ne na, upd_same]) upd_same fun b o e nb => ?_
  rw [upd_ne (ne_of_none e hd), upd_ne nb, upd_ne (ne_of_none e hd)]
  exact e
abbrev sETooMany : Stmt := inClass (top 10) 0
theorem scETooMany : FnScope ["self", "subject", "most"] ["self", "subject", "most"] (defScope sETooMany) := ⟨rfl, rfl, rfl, by decide +kernel, rfl, by decide +kernel, by decide +kernel⟩
theorem ok_eTooMany {f C : Addr} {fd : FuncData} (F : Fun K "__init__" "TooMany.__init__" sETooMany f fd) (T : OexG K C) (n0 : PySem.W.findIn K (.ref C) "code" = some none) (n1 : PySem.W.findIn K (.ref C) "subject" = some none) (n2 : PySem.W.findIn K (.ref C) "most" = some none) : FnOk P w K mg base CX0 1 f fd ["self", "subject", "most"] (spI2 C "TooMany" "subject" "most") := by
  refine F.ok scETooMany (fun vs H Q E h => ?_) (fun cdv A outer s H vs Q E hr h => ?_)
  · obtain ⟨a, x, y, rfl, _⟩ := h
    rfl
  obtain ⟨a, x, y, rfl, ha, q⟩ := h
  refine ⟨_, pss_cons (ps_ostG (pv 0) pe_str) (pss_cons (ps_ostG (pv 0) (pv 1)) (pss_one (ps_ostG (pv 0) (pv 2)))), ?_⟩
  refine ⟨_, rfl, a, C, rfl, T, n0, .inl ⟨ha, fun d hd nd => ?_⟩⟩
  have na : a ≠ d := Ne.symm nd
  refine ⟨_, rfl, _, rfl, a, C, rfl, T, n1, .inr ⟨d, _, upd_same, by rw [upd_ne nd, upd_same], (by show 1 ≤ 900; decide), ?_⟩⟩
  refine ⟨_, rfl, _, rfl, a, C, rfl, T, n2, .inr ⟨d, _, by rw [upd_ne na, upd_same], upd_same, (by show 2 ≤ 900; decide), ?_⟩⟩
  refine q d _ hd nd (by rw [upd_ne na, upd_ne na, upd_same]) upd_same fun b o e nb => ?_
  rw [upd_ne (ne_of_none e hd), upd_ne (ne_of_none e hd), upd_ne nb, upd_ne (ne_of_none e hd)]
  exact e
/-- an error class that can be made -/
structure Xr (P : Program) (w : World) (K : PySem.W.Frag) (mg : Str → Option Value) (base : Heap) (C : Addr) (n : Nat) (fI : Addr) (fd : FuncData) (x : Str) (ps : List Str) (sp : Sp) (g : List Value → List Value → List Value) : Prop where
  x : Xm P w K mg base C 1 fI fd x ps sp
  kb : KBn K fd ps (n + 1) [] g (fun vs zs => vs ++ zs)
/-- the way out by an error of class C with the fields fs -/
def XkE (C : Addr) (fs : List (Str × V)) (H : Hp) (E : XK) : Prop := ∀ d H', Same H H' → H d = none → H' d = some (exd d fs) → E (.ref C) (some d) H'
theorem XkE.from {C : Addr} {fs : List (Str × V)} {H H1 : Hp} {E : XK} (h : XkE C fs H E) (s : Same H H1) : XkE C fs H1 E := fun d H' s' hd hd' => h d H' (s.trans s') (s.free hd) hd'
theorem mk_raise1 {X : Cx} {C a : Addr} {c f : Str} {v : V} {H H1 : Hp} {Z : Value → Option Addr → Hp → Prop} (T : OexG X.K C) (hH : X.H_0 = H) (s : Same H H1) (ha : H1 a = none) (z : ∀ d H', Same H1 H' → H1 d = none → H' d = some (exd d [(f, v), ("code", .str c)]) → Z (.ref C) (some d) H') :
    spI1 C c f [.ref a, v] (upd H1 a (exo a C none)) (fun u H3 => u = .non ∧ ∃ a' C' d, V.ref a = .ref a' ∧ H3 a' = some (exo a' C' (some d)) ∧ Fr0 X.H_0 a' ∧ Raises X (.ref C') ∧ Z (.ref C') (some d) (delH H3 a')) E0 := by
  refine ⟨a, v, rfl, upd_same, fun d H' hd nd ha' hd' keep => ⟨rfl, a, C, d, rfl, ha', fr0_none (by rw [hH]; exact s.free ha), raises_own T.exC T.tyC, ?_⟩⟩
  rw [upd_ne nd] at hd
  refine z d (delH H' a) (fun b o hb => ?_) hd (by rw [delH_ne nd]; exact hd')
  have nb : b ≠ a := ne_of_none hb ha
  rw [delH_ne nb]
  exact keep b o (by rw [upd_ne nb]; exact hb) nb
theorem mk_raise2 {X : Cx} {C a : Addr} {c f g : Str} {v u' : V} {H1 : Hp} {Z : Value → Option Addr → Hp → Prop} (T : OexG X.K C) (hH : Fr0 X.H_0 a) (ha : H1 a = none) (z : ∀ d H', Same H1 H' → H1 d = none → H' d = some (exd d [(g, u'), (f, v), ("code", .str c)]) → Z (.ref C) (some d) H') :
    spI2 C c f g [.ref a, v, u'] (upd H1 a (exo a C none)) (fun u H3 => u = .non ∧ ∃ a' C' d, V.ref a = .ref a' ∧ H3 a' = some (exo a' C' (some d)) ∧ Fr0 X.H_0 a' ∧ Raises X (.ref C') ∧ Z (.ref C') (some d) (delH H3 a')) E0 := by
  refine ⟨a, v, u', rfl, upd_same, fun d H' hd nd ha' hd' keep => ⟨rfl, a, C, d, rfl, ha', hH, raises_own T.exC T.tyC, ?_⟩⟩
  rw [upd_ne nd] at hd
  refine z d (delH H' a) (fun b o hb => ?_) hd (by rw [delH_ne nd]; exact hd')
  have nb : b ≠ a := ne_of_none hb ha
  rw [delH_ne nb]
  exact keep b o (by rw [upd_ne nb]; exact hb) nb
/-! what is wrong with the wires -/
inductive Flt where
  | dup (w : Str)
  | unk (w : Str)
def dupOf : List Str → List Str → Option Str
  | _, [] => none
  | seen, w :: r => if w ∈ seen then some w else dupOf (seen ++ [w]) r
def unkIn (rs ws : List Str) : Option Str := ws.find? fun z => decide (z ∉ rs)
def unkOf (rs : List Str) : List Pt → Option Str
  | [] => none
  | p :: ps => match unkIn rs (endsP p) with
    | some z => some z
    | none => unkOf rs ps
def wireFlt (ps : List Pt) (os : List Str) : Option Flt := match dupOf [] (wiresP ps) with
  | some w => some (.dup w)
  | none => match unkOf (wiresP ps) ps with
    | some w => some (.unk w)
    | none => (unkIn (wiresP ps) os).map .unk
def FltE (CD CU : Addr) (f : Flt) (H : Hp) (E : XK) : Prop := match f with
  | .dup w => XkE CD [("name", .str w), ("code", .str "DuplicateName")] H E
  | .unk w => XkE CU [("name", .str w), ("code", .str "UnknownName")] H E
theorem unkIn_none {rs ws : List Str} (h : unkIn rs ws = none) : ∀ z ∈ ws, z ∈ rs := fun z hz => by
  have := List.find?_eq_none.mp h z hz
  simpa using this
theorem unkIn_cons (rs : List Str) (z : Str) (ws : List Str) : unkIn rs (z :: ws) = if z ∈ rs then unkIn rs ws else some z := by
  unfold unkIn
  by_cases h : z ∈ rs
  · rw [if_pos h, List.find?_cons_of_neg (by simpa using h)]
  · rw [if_neg h, List.find?_cons_of_pos (by simpa using h)]
def spCkKnownX (CU : Addr) : Sp := fun vs H Q E => ∃ (l d : Addr) (ws rs : List Str), vs = [.ref l, .ref d] ∧ H l = some (.lst (ws.map V.str)) ∧ H d = some (.dK (marks rs)) ∧ match unkIn rs ws with
  | none => Q .non H
  | some z => XkE CU [("name", .str z), ("code", .str "UnknownName")] H E
theorem unk_first {rs : List Str} : ∀ {ws : List Str} {i : Nat} {z : Str}, (∀ j y, j < i → ws[j]? = some y → y ∈ rs) → ws[i]? = some z → z ∉ rs → unkIn rs ws = some z
  | [], i, z, _, h, _ => by cases h
  | w :: ws, 0, z, _, h, hn => by
    cases h
    rw [unkIn_cons, if_neg hn]
  | w :: ws, i + 1, z, hp, h, hn => by
    rw [unkIn_cons, if_pos (hp 0 w (Nat.succ_pos _) rfl)]
    exact unk_first (fun j y hj hy => hp (j + 1) y (Nat.succ_lt_succ hj) hy) h hn
theorem ok_ckKnownX {f CU fU : Addr} {fd dU : FuncData} {gU : List Value → List Value → List Value} (F : Fun K "check_known" "check_known" sCkKnown f fd) (XU : Xr P w K mg base CU 1 fU dU "UnknownName" ["self", "name"] (spI1 CU "UnknownName" "name") gU) : FnOk P w K mg base (L2.CX P w) 3 f fd ["wires", "known"] (spCkKnownX CU) := by
  refine F.okX scCkKnown (fun vs H Q E h => ?_) (fun cdv A outer s H vs Q E hr h => ?_)
  · obtain ⟨l, d, ws, rs, rfl, _⟩ := h
    rfl
  obtain ⟨l, d, ws, rs, rfl, hl, hd, q⟩ := h
  refine ⟨_, (pss_one (ps_for (passes_of rfl) rfl (pi_list (pv 0)) (pg_name (i := 2) scCkKnown.nd rfl (by first | exact Or.inl rfl | exact Or.inr rfl))
 (pss_one (ps_if (pt_cmp (pc_dnotin (hu_of hr) (pv 2) (pv 1)))
 (pss_one (ps_raise rfl (takes_of rfl rfl rfl rfl) (ExR.pmk_exo rfl (pe_mkG XU.x (hr.mono (by decide)) (by rfl) XU.kb (pa_cons (pv 2) pa_nil)))))
 pss_nil)))), ?_⟩
  refine ⟨.ref l, rfl, l, rfl, ⟨_, SqL.of hl⟩, ?_⟩
  refine for_list (xs := ws.map V.str) (fun i σ H2 => (∃ v2, σ = [some (.ref l), some (.ref d), v2]) ∧ H2 = H ∧ ∀ j y, j < i → ws[j]? = some y → y ∈ rs) ⟨⟨_, rfl⟩, rfl, fun j y hj => absurd hj (Nat.not_lt_zero _)⟩ (fun i σ H2 _ h => by rw [h.2.1]; exact SqL.of hl) ?_ ?_
  · rintro i x σ H2 hx ⟨⟨v2, rfl⟩, rfl, hp⟩
    rw [List.getElem?_map] at hx
    cases e : ws[i]? with
    | none => rw [e] at hx; cases hx
    | some z =>
      rw [e] at hx
      cases hx
      refine ⟨_, rfl, _, rfl, d, _, rfl, DGet.k (k := Sum.inr z) hd, _, rfl, ?_⟩
      rw [marks_get]
      by_cases hz : z ∈ rs
      · rw [if_pos hz]
        refine iteF ⟨⟨_, rfl⟩, rfl, fun j y hj hy => ?_⟩
        by_cases ej : j = i
        · rw [ej, e] at hy
          cases hy
          exact hz
        · exact hp j y (by omega) hy
      · rw [if_neg hz]
        refine iteT ?_
        rw [unk_first hp e hz] at q
        exact ⟨_, rfl, rfl, rfl, (by decide), fun a ha => mk_raise1 XU.x.T rfl (Same.refl _) ha q⟩
  · rintro σ H2 ⟨⟨v2, rfl⟩, rfl, hp⟩
    rw [List.length_map] at hp
    have : unkIn rs ws = none := List.find?_eq_none.mpr fun z hz => by
      obtain ⟨j, hj⟩ := List.getElem?_of_mem hz
      have := hp j z (List.getElem?_eq_some_iff.mp hj).1 hj
      simpa using this
    rw [this] at q
    exact q
end
end Un
namespace Un
open PySem L2 TL
section
variable {P : Program} {w : World} {K : PySem.W.Frag} {mg : Str → Option Value} {base : Heap}
open XV
structure DfX (P : Program) (w : World) (K : PySem.W.Frag) (mg : Str → Option Value) (base : Heap) (k : Nat) (f : Addr) (fd : FuncData) (x : Str) (ps : List Str) (sp : Sp) : Prop where
  ok : FnOk P w K mg base (L2.CX P w) k f fd ps sp
  b : Binds K fd ps []
  kp : PySem.W.keepIn K (.ref f) = true
  m : mg x = some (.ref f)
theorem dup_at : ∀ {ws seen : List Str} {i : Nat} {z : Str}, (∀ j y, j < i → ws[j]? = some y → y ∉ seen ++ ws.take j) → ws[i]? = some z → z ∈ seen ++ ws.take i → dupOf seen ws = some z
  | [], _, i, z, _, h, _ => by cases h
  | w :: ws, seen, 0, z, _, h, hm => by
    cases h
    unfold dupOf
    rw [if_pos (by simpa using hm)]
  | w :: ws, seen, i + 1, z, hp, h, hm => by
    have h0 := hp 0 w (Nat.succ_pos _) rfl
    unfold dupOf
    rw [if_neg (by simpa using h0)]
    refine dup_at (i := i) (fun j y hj hy => ?_) h ?_
    · have := hp (j + 1) y (Nat.succ_lt_succ hj) hy
      rw [List.take_succ_cons] at this
      rw [List.append_assoc]
      exact this
    · rw [List.take_succ_cons] at hm
      rw [List.append_assoc]
      exact hm
theorem dup_none : ∀ {ws seen : List Str}, (∀ j y, ws[j]? = some y → y ∉ seen ++ ws.take j) → dupOf seen ws = none
  | [], _, _ => rfl
  | w :: ws, seen, hp => by
    have h0 := hp 0 w rfl
    unfold dupOf
    rw [if_neg (by simpa using h0)]
    refine dup_none fun j y hy => ?_
    have := hp (j + 1) y hy
    rw [List.take_succ_cons] at this
    rw [List.append_assoc]
    exact this
theorem nd_of_take {ws : List Str} (h : ∀ j y, ws[j]? = some y → y ∉ ws.take j) : ws.Nodup := by
  rw [List.nodup_iff_pairwise_ne, List.pairwise_iff_getElem]
  intro i j hi hj lt e
  refine h j _ (List.getElem?_eq_getElem hj) ?_
  rw [← e]
  exact List.mem_take_iff_getElem.mpr ⟨i, by omega, rfl⟩
theorem unkOf_at {rs : List Str} : ∀ {ps : List Pt} {i : Nat} {p : Pt} {z : Str}, (∀ j q, j < i → ps[j]? = some q → unkIn rs (endsP q) = none) → ps[i]? = some p → unkIn rs (endsP p) = some z → unkOf rs ps = some z
  | [], i, p, z, _, h, _ => by cases h
  | q :: ps, 0, p, z, _, h, e => by
    cases h
    unfold unkOf
    rw [e]
  | q :: ps, i + 1, p, z, hp, h, e => by
    unfold unkOf
    rw [hp 0 q (Nat.succ_pos _) rfl]
    exact unkOf_at (fun j r hj hr => hp (j + 1) r (Nat.succ_lt_succ hj) hr) h e
theorem unkOf_none {rs : List Str} : ∀ {ps : List Pt}, (∀ (j : Nat) q, ps[j]? = some q → unkIn rs (endsP q) = none) → unkOf rs ps = none
  | [], _ => rfl
  | q :: ps, hp => by
    unfold unkOf
    rw [hp 0 q rfl]
    exact unkOf_none fun j r hr => hp (j + 1) r hr
def spCkWiresX (CD CU : Addr) : Sp := fun vs H Q E => ∃ (o u : Addr) (us : List V) (ps : List Pt) (os : List Str), vs = [.ref o, .ref u] ∧ PsAt H o us ps ∧ H u = some (.lst (os.map V.str)) ∧ match wireFlt ps os with
  | none => ∀ H', Same H H' → Q .non H'
  | some f => FltE CD CU f H E
theorem FltE.from {CD CU : Addr} {f : Flt} {H H1 : Hp} {E : XK} (h : FltE CD CU f H E) (s : Same H H1) : FltE CD CU f H1 E := by
  cases f with
  | dup w => exact XkE.from h s
  | unk w => exact XkE.from h s
theorem ok_ckWiresX {f CD CU fD fk fw : Addr} {fd dD dk dw : FuncData} {gD : List Value → List Value → List Value} (F : Fun K "check_wires" "check_wires" sCkWires f fd) (XD : Xr P w K mg base CD 1 fD dD "DuplicateName" ["self", "name"] (spI1 CD "DuplicateName" "name") gD)
    (GK : DfX P w K mg base 3 fk dk "check_known" ["wires", "known"] (spCkKnownX CU)) (GW : Df P w K mg base 1 fw dw "wires_in" ["part"] (spStrs endsP)) : FnOk P w K mg base (L2.CX P w) 4 f fd ["parts", "outs"] (spCkWiresX CD CU) := by
  refine F.okX scCkWires (fun vs H Q E h => ?_) (fun cdv A outer s H vs Q E hr h => ?_)
  · obtain ⟨o, u, us, ps, os, rfl, _⟩ := h
    rfl
  obtain ⟨o, u, us, ps, os, rfl, pa, hu, q⟩ := h
  refine ⟨_, (pss_cons (ps_set (i := 2) scCkWires.nd rfl (by first | exact Or.inl rfl | exact Or.inr rfl) pe_dnewK)
 (pss_cons (ps_for (passes_of rfl) rfl (pi_list (pv 0)) (pg_name (i := 3) scCkWires.nd rfl (by first | exact Or.inl rfl | exact Or.inr rfl))
 (pss_cons (ps_if (pt_cmp (pc_din (hu_of hr) (pe_ix ix_tup (pv 3) pe_int (fun _ _ => rfl)) (pv 2)))
 (pss_one (ps_raise rfl (takes_of rfl rfl rfl rfl) (ExR.pmk_exo rfl (pe_mkG XD.x (hr.mono (by decide)) (by rfl) XD.kb (pa_cons (pe_ix ix_tup (pv 3) pe_int (fun _ _ => rfl)) pa_nil)))))
 pss_nil)
 (pss_one (ps_dput (hu_of hr) (pv 2) (pe_ix ix_tup (pv 3) pe_int (fun _ _ => rfl)) pe_bl rfl))))
 (pss_cons (ps_for (passes_of rfl) rfl (pi_list (pv 0)) (pg_name (i := 3) scCkWires.nd rfl (by first | exact Or.inl rfl | exact Or.inr rfl))
 (pss_one (ps_expr (pe_callS GK.ok (hr.mono (by decide)) (by rfl) GK.m GK.kp GK.b (fun σ => passAt (takes_of rfl rfl rfl rfl) σ) (pa_cons (pe_call GW.ok (hr.mono (by decide)) (by rfl) GW.m GW.kp GW.b .nil pass0 (pa_cons (pv 3) pa_nil)) (pa_cons (pv 2) pa_nil))))))
 (pss_one (ps_expr (pe_callS GK.ok (hr.mono (by decide)) (by rfl) GK.m GK.kp GK.b (fun σ => passAt (takes_of rfl rfl rfl rfl) σ) (pa_cons (pv 1) (pa_cons (pv 2) pa_nil)))))))), ?_⟩
  intro d hd
  have s1 := same_upd hd (.dK [])
  have pl := pa.l
  refine ⟨.ref o, rfl, o, rfl, ⟨_, SqL.of (s1 _ _ pa.at_)⟩, ?_⟩
  refine for_list (xs := us) (fun i σ H2 => (∃ v3, σ = [some (.ref o), some (.ref u), some (.ref d), v3]) ∧ Same H H2 ∧ H2 d = some (.dK (marks ((wiresP ps).take i))) ∧ ∀ j y, j < i → (wiresP ps)[j]? = some y → y ∉ (wiresP ps).take j) ⟨⟨_, rfl⟩, s1, upd_same, fun j y hj => absurd hj (Nat.not_lt_zero _)⟩ (fun i σ H2 _ h => SqL.of (h.2.1 _ _ pa.at_)) ?_ ?_
  · rintro i x σ H2 hx ⟨⟨v3, rfl⟩, s2, hd2, hp2⟩
    obtain ⟨p, hp, pt, _⟩ := (pa.same s2).nth hx
    obtain ⟨a, r, rfl, ha⟩ := pt.two
    have hw : (wiresP ps)[i]? = some (Pw p) := by rw [List.getElem?_map, hp]; rfl
    refine ⟨_, rfl, a, _, 1, _, rfl, rfl, SqT.of ha, atI_nat (j := 1) rfl, _, rfl, d, _, rfl, DGet.k (k := Sum.inr (Pw p)) hd2, _, rfl, ?_⟩
    rw [marks_get]
    by_cases hn : Pw p ∈ (wiresP ps).take i
    · rw [if_pos hn]
      refine iteT ?_
      have e : dupOf [] (wiresP ps) = some (Pw p) := dup_at (i := i) (fun j y hj hy => hp2 j y hj hy) hw hn
      unfold wireFlt at q
      rw [e] at q
      exact ⟨_, rfl, a, _, 1, _, rfl, rfl, SqT.of ha, atI_nat (j := 1) rfl, rfl, rfl, (by decide), fun b hb => mk_raise1 XD.x.T rfl s2 hb (XkE.from q s2)⟩
    · rw [if_neg hn]
      refine iteF ?_
      have lt : (marks ((wiresP ps).take i)).length < sizeLine := by
        unfold marks
        rw [List.length_map]
        exact small1000 (Nat.le_trans (List.length_take_le _ _) (by
          have hi := (List.getElem?_eq_some_iff.mp hp).1
          omega))
      refine ⟨_, rfl, _, rfl, a, _, 1, _, rfl, rfl, SqT.of ha, atI_nat (j := 1) rfl, d, _, rfl, DPut.k (k := Sum.inr (Pw p)) hd2 lt, ?_⟩
      rw [marks_put hn]
      refine ⟨⟨_, rfl⟩, fun b ob hb => ?_, ?_, fun j y hj hy => ?_⟩
      · rw [upd_ne (ne_of_none hb hd)]
        exact s2 _ _ hb
      · rw [upd_same, List.take_add_one, hw]
        rfl
      · by_cases ej : j = i
        · rw [ej, hw] at hy
          cases hy
          rw [ej]
          exact hn
        · exact hp2 j y (by omega) hy
  · rintro σ H2 ⟨⟨v3, rfl⟩, s2, hd2, hp2⟩
    have lw : us.length = (wiresP ps).length := by rw [pa.all.1, List.length_map]
    rw [lw] at hd2 hp2
    rw [List.take_length] at hd2
    have hall : ∀ j y, (wiresP ps)[j]? = some y → y ∉ (wiresP ps).take j := fun j y hy => hp2 j y (List.getElem?_eq_some_iff.mp hy).1 hy
    have dn : dupOf [] (wiresP ps) = none := dup_none fun j y hy => hall j y hy
    unfold wireFlt at q
    rw [dn] at q
    refine ⟨.ref o, rfl, o, rfl, ⟨_, SqL.of (s2 _ _ pa.at_)⟩, ?_⟩
    refine for_list (xs := us) (fun i σ H3 => (∃ v3, σ = [some (.ref o), some (.ref u), some (.ref d), v3]) ∧ Same H2 H3 ∧ ∀ j p, j < i → ps[j]? = some p → unkIn (wiresP ps) (endsP p) = none) ⟨⟨_, rfl⟩, Same.refl _, fun j y hj => absurd hj (Nat.not_lt_zero _)⟩ (fun i σ H3 _ h => SqL.of (h.2.1 _ _ (s2 _ _ pa.at_))) ?_ ?_
    · rintro i x σ H3 hx ⟨⟨v3, rfl⟩, s3, hp3⟩
      obtain ⟨p, hp, pt, pp⟩ := (pa.same (s2.trans s3)).nth hx
      refine ⟨_, rfl, x, p, rfl, pt, pp.ok, pp.sm, pp.nu, fun l H4 s4 hl hl4 => ?_⟩
      refine ⟨_, rfl, l, d, endsP p, wiresP ps, rfl, hl4, s4 _ _ (s3 _ _ hd2), ?_⟩
      cases e : unkIn (wiresP ps) (endsP p) with
      | some z =>
        have eu : unkOf (wiresP ps) ps = some z := unkOf_at (fun j q hj hq => hp3 j q hj hq) hp e
        rw [eu] at q
        exact XkE.from q ((s2.trans s3).trans s4)
      | none =>
        refine ⟨⟨_, rfl⟩, s3.trans s4, fun j q hj hq => ?_⟩
        by_cases ej : j = i
        · rw [ej, hp] at hq
          cases hq
          exact e
        · exact hp3 j q (by omega) hq
    · rintro σ H3 ⟨⟨v3, rfl⟩, s3, hp3⟩
      rw [pa.all.1] at hp3
      have un : unkOf (wiresP ps) ps = none := unkOf_none fun j q hq => hp3 j q (List.getElem?_eq_some_iff.mp hq).1 hq
      rw [un] at q
      refine ⟨_, rfl, _, rfl, u, d, os, wiresP ps, rfl, s3 _ _ (s2 _ _ hu), s3 _ _ hd2, ?_⟩
      cases e : unkIn (wiresP ps) os with
      | none =>
        rw [e] at q
        exact q _ (s2.trans s3)
      | some z =>
        rw [e] at q
        exact XkE.from q (s2.trans s3)
end
end Un
namespace Un
open PySem L2 TL
section
variable {P : Program} {w : World} {K : PySem.W.Frag} {mg : Str → Option Value} {base : Heap}
open XV
/-- the way out by an error, an object at a changed meanwhile -/
def XkK (a : Addr) (C : Addr) (fs : List (Str × V)) (H : Hp) (E : XK) : Prop := ∀ d H', Kp a H H' → H d = none → H' d = some (exd d fs) → E (.ref C) (some d) H'
theorem XkK.to {a C : Addr} {fs : List (Str × V)} {H H1 : Hp} {E : XK} {o1 : HO} (h : XkK a C fs H E) (k : Kp a H H1) (h1 : H1 a = some o1) : XkE C fs H1 E := fun d H' s hd hd' => h d H' (k.trans (Same.kp s)) (by
  cases e : H d with
  | none => rfl
  | some u =>
    by_cases z : d = a
    · rw [z, h1] at hd
      cases hd
    · rw [k _ _ e z] at hd
      cases hd) hd'
def FltK (a CD CU : Addr) (f : Flt) (H : Hp) (E : XK) : Prop := match f with
  | .dup w => XkK a CD [("name", .str w), ("code", .str "DuplicateName")] H E
  | .unk w => XkK a CU [("name", .str w), ("code", .str "UnknownName")] H E
theorem FltK.to {a CD CU : Addr} {f : Flt} {H H1 : Hp} {E : XK} {o1 : HO} (h : FltK a CD CU f H E) (k : Kp a H H1) (h1 : H1 a = some o1) : FltE CD CU f H1 E := by
  cases f with
  | dup w => exact XkK.to h k h1
  | unk w => exact XkK.to h k h1
theorem dup_nd : ∀ {ws seen : List Str}, dupOf seen ws = none → ws.Nodup ∧ ∀ z ∈ ws, z ∉ seen
  | [], _, _ => ⟨List.nodup_nil, fun z hz => nomatch hz⟩
  | w :: ws, seen, h => by
    unfold dupOf at h
    by_cases m : w ∈ seen
    · rw [if_pos m] at h
      cases h
    · rw [if_neg m] at h
      obtain ⟨h1, h2⟩ := dup_nd h
      refine ⟨List.nodup_cons.mpr ⟨fun hw => h2 w hw (List.mem_append_right _ (List.mem_singleton.mpr rfl)), h1⟩, fun z hz => ?_⟩
      rcases List.mem_cons.mp hz with e | hz
      · rw [e]
        exact m
      · exact fun hs => h2 z hz (List.mem_append_left _ hs)
theorem unkOf_all {rs : List Str} : ∀ {ps : List Pt}, unkOf rs ps = none → ∀ p ∈ ps, ∀ e ∈ endsP p, e ∈ rs
  | [], _ => fun p hp => nomatch hp
  | q :: ps, h => by
    unfold unkOf at h
    cases e : unkIn rs (endsP q) with
    | some z => rw [e] at h; cases h
    | none =>
      rw [e] at h
      intro p hp
      rcases List.mem_cons.mp hp with z | hp
      · rw [z]
        exact unkIn_none e
      · exact unkOf_all h p hp
theorem FltK.from_kp {a CD CU : Addr} : True := trivial
/-! ### boxes of unlike kinds -/
abbrev Bx3 := Str × Str × Str
def ofName (z : Str) (y : Bx3) : Bool := decide (y.2.2 = z)
def unlikeFrom : List Bx3 → List Bx3 → Option Str
  | _, [] => none
  | seen, b :: bs => match seen.find? (ofName b.2.2) with
    | some x => if x.2.1 = b.2.1 then unlikeFrom (seen ++ [b]) bs else some b.2.2
    | none => unlikeFrom (seen ++ [b]) bs
def unlikeOf (bs : List Bx3) : Option Str := unlikeFrom [] bs
/-- the box at i is as the first of its name ahead of it -/
def FineAt (seen bs : List Bx3) (i : Nat) (b : Bx3) : Prop := ∀ x, (seen ++ bs.take i).find? (ofName b.2.2) = some x → x.2.1 = b.2.1
theorem unlike_next {seen : List Bx3} {b : Bx3} {bs : List Bx3} (h : ∀ x, seen.find? (ofName b.2.2) = some x → x.2.1 = b.2.1) : unlikeFrom seen (b :: bs) = unlikeFrom (seen ++ [b]) bs := by
  show (match seen.find? (ofName b.2.2) with
    | some x => if x.2.1 = b.2.1 then unlikeFrom (seen ++ [b]) bs else some b.2.2
    | none => unlikeFrom (seen ++ [b]) bs) = _
  cases e : seen.find? (ofName b.2.2) with
  | none => rfl
  | some x => exact if_pos (h x e)
theorem unlike_at : ∀ {bs seen : List Bx3} {i : Nat} {b x : Bx3}, (∀ j c, j < i → bs[j]? = some c → FineAt seen bs j c) → bs[i]? = some b → (seen ++ bs.take i).find? (ofName b.2.2) = some x → x.2.1 ≠ b.2.1 → unlikeFrom seen bs = some b.2.2
  | [], _, i, _, _, _, h, _, _ => by cases h
  | c :: bs, seen, 0, b, x, _, h, hf, hn => by
    cases h
    rw [List.take_zero, List.append_nil] at hf
    show (match seen.find? (ofName c.2.2) with
      | some x => if x.2.1 = c.2.1 then unlikeFrom (seen ++ [c]) bs else some c.2.2
      | none => unlikeFrom (seen ++ [c]) bs) = _
    rw [hf]
    exact if_neg hn
  | c :: bs, seen, i + 1, b, x, hp, h, hf, hn => by
    have h0 := hp 0 c (Nat.succ_pos _) rfl
    unfold FineAt at h0
    rw [List.take_zero, List.append_nil] at h0
    rw [unlike_next h0]
    refine unlike_at (i := i) (fun j d hj hd => ?_) h (by rw [List.append_assoc]; exact hf) hn
    have := hp (j + 1) d (Nat.succ_lt_succ hj) hd
    unfold FineAt at this ⊢
    rw [List.append_assoc]
    exact this
theorem unlike_none : ∀ {bs seen : List Bx3}, (∀ (j : Nat) c, bs[j]? = some c → FineAt seen bs j c) → unlikeFrom seen bs = none
  | [], _, _ => rfl
  | c :: bs, seen, hp => by
    have h0 := hp 0 c rfl
    unfold FineAt at h0
    rw [List.take_zero, List.append_nil] at h0
    rw [unlike_next h0]
    refine unlike_none fun j d hd => ?_
    have := hp (j + 1) d hd
    unfold FineAt at this ⊢
    rw [List.append_assoc]
    exact this
def KindSame (bs : List Bx3) : Prop := ∀ x ∈ bs, ∃ f, bs.find? (ofName x.2.2) = some f ∧ f.2.1 = x.2.1
theorem kind_same : ∀ {bs seen : List Bx3}, unlikeFrom seen bs = none → KindSame seen → KindSame (seen ++ bs)
  | [], seen, _, h => by rw [List.append_nil]; exact h
  | b :: bs, seen, hu, h => by
    have hf : ∀ x, seen.find? (ofName b.2.2) = some x → x.2.1 = b.2.1 := fun x hx => by
      have e : unlikeFrom seen (b :: bs) = if x.2.1 = b.2.1 then unlikeFrom (seen ++ [b]) bs else some b.2.2 := by
        show (match seen.find? (ofName b.2.2) with
          | some x => if x.2.1 = b.2.1 then unlikeFrom (seen ++ [b]) bs else some b.2.2
          | none => unlikeFrom (seen ++ [b]) bs) = _
        rw [hx]
      by_cases q : x.2.1 = b.2.1
      · exact q
      · rw [e, if_neg q] at hu
        cases hu
    rw [unlike_next hf] at hu
    have step : KindSame (seen ++ [b]) := fun x hx => by
      rw [List.find?_append]
      rcases List.mem_append.mp hx with hx | hx
      · obtain ⟨f, h1, h2⟩ := h x hx
        exact ⟨f, by rw [h1]; rfl, h2⟩
      · rw [List.mem_singleton.mp hx]
        cases e : seen.find? (ofName b.2.2) with
        | some y => exact ⟨y, rfl, hf y e⟩
        | none => exact ⟨b, List.find?_cons_of_pos (by unfold ofName; exact decide_eq_true rfl), rfl⟩
    have := kind_same hu step
    rw [List.append_assoc] at this
    exact this
theorem agree_of {bs : List Bx3} (h : unlikeOf bs = none) : Agree bs := fun x hx y hy e => by
  have k : KindSame bs := kind_same (seen := []) h fun x hx => nomatch hx
  obtain ⟨f, h1, h2⟩ := k x hx
  obtain ⟨g, h3, h4⟩ := k y hy
  rw [e, h3] at h1
  cases h1
  exact h2.symm.trans h4
def spCkKindsX (CK : Addr) : Sp := fun vs H Q E => ∃ (l : Addr) (vs' : List V) (bs : List Bx3), vs = [.ref l] ∧ H l = some (.lst vs') ∧ All2 (B3At H) vs' bs ∧ bs.length ≤ 100 ∧ match unlikeOf bs with
  | none => ∀ H', Same H H' → Q .non H'
  | some f => XkE CK [("name", .str f), ("code", .str "UnlikeKinds")] H E
theorem ok_ckKindsX {f CK fK : Addr} {fd dK : FuncData} {gK : List Value → List Value → List Value} (F : Fun K "check_kinds" "check_kinds" sCkKinds f fd) (XK : Xr P w K mg base CK 1 fK dK "UnlikeKinds" ["self", "name"] (spI1 CK "UnlikeKinds" "name") gK) : FnOk P w K mg base (L2.CX P w) 3 f fd ["boxes"] (spCkKindsX CK) := by
  refine F.okX scCkKinds (fun vs H Q E h => ?_) (fun cdv A outer s H vs Q E hr h => ?_)
  · obtain ⟨l, vs', bs, rfl, _⟩ := h
    rfl
  obtain ⟨l, vs', bs, rfl, hl, hA, len, q⟩ := h
  refine ⟨_, (pss_cons (ps_set (i := 1) scCkKinds.nd rfl (by first | exact Or.inl rfl | exact Or.inr rfl) pe_dnewK)
 (pss_one (ps_for (passes_of rfl) rfl (pi_list (pv 0)) (pg_tup (by rfl) (pgs_cons (pg_name (i := 2) scCkKinds.nd rfl (by first | exact Or.inl rfl | exact Or.inr rfl)) (pgs_cons (pg_name (i := 3) scCkKinds.nd rfl (by first | exact Or.inl rfl | exact Or.inr rfl)) (pgs_cons (pg_name (i := 4) scCkKinds.nd rfl (by first | exact Or.inl rfl | exact Or.inr rfl)) pgs_nil))))
 (pss_one (ps_if (pt_cmpR op_ne (pe_dsetd (pv 1) (pv 4) (pv 3) ⟨rfl, rfl, rfl, rfl⟩) (pv 3) (nomark _))
 (pss_one (ps_raise rfl (takes_of rfl rfl rfl rfl) (ExR.pmk_exo rfl (pe_mkG XK.x (hr.mono (by decide)) (by rfl) XK.kb (pa_cons (pv 4) pa_nil)))))
 pss_nil))))), ?_⟩
  intro d hd
  have s1 := same_upd hd (.dK [])
  refine ⟨.ref l, rfl, l, rfl, ⟨_, SqL.of (s1 _ _ hl)⟩, ?_⟩
  refine for_list (xs := vs') (fun i σ H2 => (∃ v2 v3 v4, σ = [some (.ref l), some (.ref d), v2, v3, v4]) ∧ Same H H2 ∧ (∃ kvs : List (Key × V), H2 d = some (.dK kvs) ∧ kvs.length ≤ i ∧ ∀ z, valV kvs (Sum.inr z) = ((bs.take i).find? (ofName z)).map fun x => V.str x.2.1) ∧ ∀ j c, j < i → bs[j]? = some c → FineAt [] bs j c)
    ⟨⟨_, _, _, rfl⟩, s1, ⟨[], upd_same, Nat.le_refl _, fun z => rfl⟩, fun j c hj => absurd hj (Nat.not_lt_zero _)⟩ (fun i σ H2 _ h => SqL.of (h.2.1 _ _ hl)) ?_ ?_
  · rintro i x σ H2 hx ⟨⟨v2, v3, v4, rfl⟩, s2, ⟨kvs, hd2, kl, kv⟩, fine⟩
    have hi : i < vs'.length := (List.getElem?_eq_some_iff.mp hx).1
    obtain ⟨b, hb⟩ : ∃ b, bs[i]? = some b := ⟨bs[i]'(by rw [← hA.1]; exact hi), List.getElem?_eq_getElem _⟩
    obtain ⟨a, rfl, ha⟩ := (hA.2 i x b hx hb).same s2
    have tk : bs.take (i + 1) = bs.take i ++ [b] := by rw [List.take_add_one, hb]; rfl
    refine ⟨a, _, rfl, SqT.of ha, rfl, _, _, rfl, _, _, rfl, _, _, rfl, rfl, ?_⟩
    have lt : kvs.length < sizeLine := small1000 (by have := hA.1; omega)
    refine ⟨_, rfl, d, rfl, .inl ⟨kvs, .inl hd2⟩, _, rfl, _, rfl, kvs, Sum.inr b.2.2, hd2, rfl, lt, fun v hv => ?_, fun hv => ?_⟩
    · rw [kv] at hv
      cases e : (bs.take i).find? (ofName b.2.2) with
      | none => rw [e] at hv; cases hv
      | some y =>
        rw [e] at hv
        cases hv
        refine ⟨_, rfl, rfl, _, rfl, ?_⟩
        by_cases hk : y.2.1 = b.2.1
        · rw [show (!decide (V.str y.2.1 = V.str b.2.1)) = false by rw [hk]; simp]
          refine iteF ⟨⟨_, _, _, rfl⟩, s2, ⟨kvs, hd2, by omega, fun z => ?_⟩, fun j c hj hc => ?_⟩
          · rw [kv, tk, List.find?_append]
            cases e2 : (bs.take i).find? (ofName z) with
            | some y2 => rfl
            | none =>
              by_cases ez : b.2.2 = z
              · rw [← ez, e] at e2
                cases e2
              · rw [List.find?_cons_of_neg (by unfold ofName; rw [decide_eq_false ez]; decide)]
                rfl
          · by_cases ej : j = i
            · rw [ej, hb] at hc
              cases hc
              rw [ej]
              intro x hx
              rw [List.nil_append, e] at hx
              cases hx
              exact hk
            · exact fine j c (by omega) hc
        · rw [show (!decide (V.str y.2.1 = V.str b.2.1)) = true by simp [hk]]
          refine iteT ?_
          have eu : unlikeOf bs = some b.2.2 := unlike_at (fun j c hj hc => fine j c hj hc) hb (by rw [List.nil_append]; exact e) hk
          rw [eu] at q
          exact ⟨_, rfl, rfl, rfl, (by decide), fun c hc => mk_raise1 XK.x.T rfl s2 hc (XkE.from q s2)⟩
    · rw [kv] at hv
      have e : (bs.take i).find? (ofName b.2.2) = none := by
        cases e : (bs.take i).find? (ofName b.2.2) with
        | none => rfl
        | some y => rw [e] at hv; cases hv
      refine ⟨_, rfl, rfl, _, rfl, ?_⟩
      rw [show (!decide (V.str b.2.1 = V.str b.2.1)) = false by simp]
      refine iteF ⟨⟨_, _, _, rfl⟩, fun c oc hc => ?_, ⟨putK kvs (Sum.inr b.2.2) (.str b.2.1), upd_same, ?_, fun z => ?_⟩, fun j c hj hc => ?_⟩
      · rw [upd_ne (ne_of_none hc hd)]
        exact s2 _ _ hc
      · have := length_putK kvs (Sum.inr b.2.2) (V.str b.2.1)
        omega
      · rw [valV_put, tk, List.find?_append]
        by_cases ez : b.2.2 = z
        · rw [if_pos (by rw [ez]), ← ez, e, List.find?_cons_of_pos (by unfold ofName; exact decide_eq_true rfl)]
          rfl
        · rw [if_neg (fun q => ez (Sum.inr.inj q).symm), kv, List.find?_cons_of_neg (by unfold ofName; rw [decide_eq_false ez]; decide), List.find?_nil, Option.or_none]
      · by_cases ej : j = i
        · rw [ej, hb] at hc
          cases hc
          rw [ej]
          intro x hx
          rw [List.nil_append, e] at hx
          cases hx
        · exact fine j c (by omega) hc
  · rintro σ H2 ⟨_, s2, _, fine⟩
    have eu : unlikeOf bs = none := unlike_none fun j c hc => fine j c (by rw [hA.1]; exact (List.getElem?_eq_some_iff.mp hc).1) hc
    rw [eu] at q
    exact q H2 s2
/-! ### whatever is wrong with a net of plain parts -/
inductive FltN where
  | parts
  | dup (w : Str)
  | unk (w : Str)
  | src
  | boxes
  | unlike (f : Str)
  | ring (z : Str)
structure Ecs where
  D : Addr
  U : Addr
  T : Addr
  K : Addr
  R : Addr
def tmF (s : Str) (n : Int) : List (Str × V) := [("most", .int n), ("subject", .str s), ("code", .str "TooMany")]
def errN (c : Ecs) : FltN → Addr × List (Str × V)
  | .parts => (c.T, tmF "parts" 16)
  | .dup w => (c.D, [("name", .str w), ("code", .str "DuplicateName")])
  | .unk w => (c.U, [("name", .str w), ("code", .str "UnknownName")])
  | .src => (c.T, tmF "sources" 4)
  | .boxes => (c.T, tmF "boxes" 8)
  | .unlike f => (c.K, [("name", .str f), ("code", .str "UnlikeKinds")])
  | .ring z => (c.R, [("place", .str z), ("code", .str "Ring")])
def netBad (ps : List Pt) (os : List Str) : FltN → Prop
  | .parts => 16 < ps.length
  | .dup w => ps.length ≤ 16 ∧ wireFlt ps os = some (.dup w)
  | .unk w => ps.length ≤ 16 ∧ wireFlt ps os = some (.unk w)
  | .src => ps.length ≤ 16 ∧ wireFlt ps os = none ∧ 4 < (sourcesP ps).length
  | .boxes => ps.length ≤ 16 ∧ wireFlt ps os = none ∧ (sourcesP ps).length ≤ 4 ∧ 8 < (boxesP ps).length
  | .unlike f => ps.length ≤ 16 ∧ wireFlt ps os = none ∧ (sourcesP ps).length ≤ 4 ∧ (boxesP ps).length ≤ 8 ∧ unlikeOf (boxesP ps) = some f
  | .ring z => ps.length ≤ 16 ∧ wireFlt ps os = none ∧ (sourcesP ps).length ≤ 4 ∧ (boxesP ps).length ≤ 8 ∧ unlikeOf (boxesP ps) = none ∧ Fst (graphP ps) (.str z)
/-- what is said of the parts whatever is wrong -/
structure NetPre (ps : List Pt) (os : List Str) : Prop where
  ok : ∀ p ∈ ps, PlP p
  l : ps.length ≤ 24
  oso : OsOk os
structure NetWired (ps : List Pt) (os : List Str) : Prop where
  nd : (wiresP ps).Nodup
  known : ∀ p ∈ ps, ∀ e ∈ endsP p, e ∈ wiresP ps
  outs : ∀ z ∈ os, z ∈ wiresP ps
theorem net_wired {ps : List Pt} {os : List Str} (hf : wireFlt ps os = none) : NetWired ps os := by
  unfold wireFlt at hf
  cases e1 : dupOf [] (wiresP ps) with
  | some w => rw [e1] at hf; cases hf
  | none =>
    rw [e1] at hf
    cases e2 : unkOf (wiresP ps) ps with
    | some w => rw [e2] at hf; cases hf
    | none =>
      rw [e2] at hf
      have e3 : unkIn (wiresP ps) os = none := by
        cases e : unkIn (wiresP ps) os with
        | none => rfl
        | some z => rw [e] at hf; cases hf
      exact ⟨(dup_nd e1).1, unkOf_all e2, unkIn_none e3⟩
theorem net_gok {ps : List Pt} {os : List Str} (h : NetPre ps os) (wd : NetWired ps os) : GOk (graphP ps) := by
  refine ⟨by rw [graphP_keys]; exact wd.nd, fun z ls hz => ?_, by unfold graphP; rw [List.length_map]; have := h.l; omega⟩
  obtain ⟨p, hp, e⟩ := List.mem_map.mp (lkp_mem hz)
  cases e
  refine ⟨leads_len (h.ok p hp).sm, fun y hy => ?_⟩
  rw [graphP_keys]
  exact wd.known p hp y (leads_sub y hy)
def XkN (a : Addr) (c : Ecs) (f : FltN) (H : Hp) (E : XK) : Prop := XkK a (errN c f).1 (errN c f).2 H E
def spNetG (C : Addr) (c : Ecs) : Sp := fun vs H Q E => ∃ (a dx px py : Addr) (us : List V) (ps : List Pt) (os : List Str), vs = [.ref a, .ref px, .ref py, .non] ∧ H a = some (.ins C dx []) ∧ (H px = some (.lst us) ∨ H px = some (.tup us)) ∧ All2 (PtAt H) us ps ∧ (H py = some (.lst (os.map V.str)) ∨ H py = some (.tup (os.map V.str))) ∧ NetPre ps os ∧
  (∀ f, netBad ps os f → XkN a c f H E) ∧ (NetOk ps os → ∀ H', Kp a H H' → NetAt H' C a us ps os → Q .non H')
theorem mk_raise1F {X : Cx} {C a : Addr} {c f : Str} {v : V} {H1 : Hp} {Z : Value → Option Addr → Hp → Prop} (T : OexG X.K C) (hF : Fr0 X.H_0 a) (ha : H1 a = none) (z : ∀ d H', Same H1 H' → H1 d = none → H' d = some (exd d [(f, v), ("code", .str c)]) → Z (.ref C) (some d) H') :
    spI1 C c f [.ref a, v] (upd H1 a (exo a C none)) (fun u H3 => u = .non ∧ ∃ a' C' d, V.ref a = .ref a' ∧ H3 a' = some (exo a' C' (some d)) ∧ Fr0 X.H_0 a' ∧ Raises X (.ref C') ∧ Z (.ref C') (some d) (delH H3 a')) E0 := by
  refine ⟨a, v, rfl, upd_same, fun d H' hd nd ha' hd' keep => ⟨rfl, a, C, d, rfl, ha', hF, raises_own T.exC T.tyC, ?_⟩⟩
  rw [upd_ne nd] at hd
  refine z d (delH H' a) (fun b o hb => ?_) hd (by rw [delH_ne nd]; exact hd')
  have nb : b ≠ a := ne_of_none hb ha
  rw [delH_ne nb]
  exact keep b o (by rw [upd_ne nb]; exact hb) nb
theorem kp_none {a b : Addr} {H H1 : Hp} {o1 : HO} (k : Kp a H H1) (h1 : H1 a = some o1) (hb : H1 b = none) : H b = none := by
  cases e : H b with
  | none => rfl
  | some u =>
    by_cases z : b = a
    · rw [z, h1] at hb
      cases hb
    · rw [k _ _ e z] at hb
      cases hb
theorem ok_n_initG {f C fT fR fp fo fw fu ff fk fr fl fs fb : Addr} {c : Ecs} {fd dT dR dp d_o dw du df dk dr dl ds db : FuncData} {dvs : List V} {kws : List (Str × V)} {gT gR : List Value → List Value → List Value} (F : FunD K "__init__" "Net.__init__" (defArgs sN_init) (defBody sN_init) (defScope sN_init) dvs kws f fd) (C' : NetC K C) (T : NetTxt K w mg) (N : NiTxt mg)
    (GP : Df P w K mg base 5 fp dp "is_part" ["value"] spIsPart) (GO : Df P w K mg base 2 fo d_o "check_outs" ["outs"] spCkOuts) (GW : DfX P w K mg base 4 fw dw "check_wires" ["parts", "outs"] (spCkWiresX c.D c.U)) (XT : Xr P w K mg base c.T 2 fT dT "TooMany" ["self", "subject", "most"] (spI2 c.T "TooMany" "subject" "most") gT) (XR : Xr P w K mg base c.R 1 fR dR "Ring" ["self", "place"] (spI1 c.R "Ring" "place") gR) (GU : Df P w K mg base 1 fu du "check_uses" ["parts", "pieces"] spCkUses)
    (GF : Df P w K mg base 1 ff df "plain_of" ["parts", "pieces"] spPlainOf) (GK : DfX P w K mg base 3 fk dk "check_kinds" ["boxes"] (spCkKindsX c.K)) (GR : Df P w K mg base 2 fr dr "first_on_ring" ["leads"] spFirst) (GL : Df P w K mg base 2 fl dl "leads_of" ["part"] (spStrs leadsP))
    (MS : Mt P w K mg base C 1 fs ds "sources" ["self"] (spStrOf C "_parts" sourcesP)) (MB : Mt P w K mg base C 2 fb db "boxes" ["self"] (spBoxesM C)) :
    FnOk P w K mg base (L2.CX P w) 7 f fd netPs (spNetG C c) := by
  refine F.ok scN_init (fun vs H Q E h => ?_) (fun cdv A outer s H vs Q E hr h => ?_)
  · obtain ⟨a, dx, px, py, us, ps, os, rfl, _⟩ := h
    rfl
  obtain ⟨a, dx, px, py, us, ps, os, rfl, ha, hpx, hA, hpy, nk, bad, q⟩ := h
  obtain ⟨ts, msrc⟩ := N.src
  obtain ⟨tw, mwir⟩ := N.wir
  obtain ⟨um, hmost⟩ := C'.most
  obtain ⟨ub, hbox⟩ := C'.boxes
  have npx : px ≠ a := by rcases hpx with h | h <;> exact ne_of h ha (by intro z; cases z)
  have npy : py ≠ a := by rcases hpy with h | h <;> exact ne_of h ha (by intro z; cases z)
  refine ⟨_, (pss_cons (ps_fld (pv 0) (pe_callTy call_list_of (by rfl) N.list (by decide +kernel) (pa_cons (pv 1) pa_nil)) rfl)
 (pss_cons (ps_fld (pv 0) (pe_callTy call_list_of (by rfl) N.list (by decide +kernel) (pa_cons (pv 2) pa_nil)) rfl)
 (pss_cons (ps_fld (pv 0) (pe_ifExp (pt_cmpR op_isN (pv 3) pe_non (nomark _)) pe_dnewK (pe_callTy call_dictD (by rfl) N.dict (by decide +kernel) (pa_cons (pv 3) pa_nil))) rfl)
 (pss_cons (ps_for (passes_of rfl) rfl (pi_enum (by rfl) T.enum (pa_cons (pe_fld (pv 0) rfl) pa_nil)) (pg_tup (by rfl) (pgs_cons (pg_name (i := 4) scN_init.nd rfl (by first | exact Or.inl rfl | exact Or.inr rfl)) (pgs_cons (pg_name (i := 5) scN_init.nd rfl (by first | exact Or.inl rfl | exact Or.inr rfl)) pgs_nil)))
 (pss_one (ps_if (pt_not (pt_val (pe_call GP.ok (hr.mono (by decide)) (by rfl) GP.m GP.kp GP.b .nil pass0 (pa_cons (pv 5) pa_nil))))
 pss_never
 pss_nil)))
 (pss_cons (ps_if (pt_cmpR op_gt (pe_callB call_len_seq (by rfl) N.len PySem.boot_len (pa_cons (pe_fld (pv 0) rfl) pa_nil)) (pe_con (pv 0) rfl) (nomark _))
 (pss_one (ps_raise rfl (takes_of rfl rfl rfl rfl) (ExR.pmk_exo rfl (pe_mkG XT.x (hr.mono (by decide)) (by rfl) XT.kb (pa_cons pe_str (pa_cons (pe_con (pv 0) rfl) pa_nil))))))
 pss_nil)
 (pss_cons (ps_expr (pe_call GO.ok (hr.mono (by decide)) (by rfl) GO.m GO.kp GO.b .nil pass0 (pa_cons (pe_fld (pv 0) rfl) pa_nil)))
 (pss_cons (ps_expr (pe_callS GW.ok (hr.mono (by decide)) (by rfl) GW.m GW.kp GW.b (fun σ => passAt (takes_of rfl rfl rfl rfl) σ) (pa_cons (pe_fld (pv 0) rfl) (pa_cons (pe_fld (pv 0) rfl) pa_nil))))
 (pss_cons (ps_if (pt_cmpR op_gt (pe_callB call_len_seq (by rfl) N.len PySem.boot_len (pa_cons (pe_meth0 (pv 0) C'.cl MS.mt MS.ok (hr.mono (by decide)) MS.b .nil pass0) pa_nil)) (pe_glob (v := .int 4) (by rfl) msrc ⟨_, rfl⟩) (nomark _))
 (pss_one (ps_raise rfl (takes_of rfl rfl rfl rfl) (ExR.pmk_exo rfl (pe_mkG XT.x (hr.mono (by decide)) (by rfl) XT.kb (pa_cons pe_str (pa_cons (pe_glob (v := .int 4) (by rfl) msrc ⟨_, rfl⟩) pa_nil))))))
 pss_nil)
 (pss_cons (ps_expr (pe_call GU.ok (hr.mono (by decide)) (by rfl) GU.m GU.kp GU.b .nil pass0 (pa_cons (pe_fld (pv 0) rfl) (pa_cons (pe_fld (pv 0) rfl) pa_nil))))
 (pss_cons (ps_fld (pv 0) (pe_call GF.ok (hr.mono (by decide)) (by rfl) GF.m GF.kp GF.b .nil pass0 (pa_cons (pe_fld (pv 0) rfl) (pa_cons (pe_fld (pv 0) rfl) pa_nil))) rfl)
 (pss_cons (ps_if (pt_cmpR op_gt (pe_callB call_len_seq (by rfl) N.len PySem.boot_len (pa_cons (pe_fld (pv 0) rfl) pa_nil)) (pe_glob (v := .int 24) (by rfl) mwir ⟨_, rfl⟩) (nomark _))
 pss_never
 pss_nil)
 (pss_cons (ps_if (pt_cmpR op_gt (pe_callB call_len_seq (by rfl) N.len PySem.boot_len (pa_cons (pe_meth0 (pv 0) C'.cl MB.mt MB.ok (hr.mono (by decide)) MB.b .nil pass0) pa_nil)) (pe_con (pv 0) rfl) (nomark _))
 (pss_one (ps_raise rfl (takes_of rfl rfl rfl rfl) (ExR.pmk_exo rfl (pe_mkG XT.x (hr.mono (by decide)) (by rfl) XT.kb (pa_cons pe_str (pa_cons (pe_con (pv 0) rfl) pa_nil))))))
 pss_nil)
 (pss_cons (ps_expr (pe_callS GK.ok (hr.mono (by decide)) (by rfl) GK.m GK.kp GK.b (fun σ => passAt (takes_of rfl rfl rfl rfl) σ) (pa_cons (pe_meth0 (pv 0) C'.cl MB.mt MB.ok (hr.mono (by decide)) MB.b .nil pass0) pa_nil)))
 (pss_cons (ps_set (i := 6) scN_init.nd rfl (by first | exact Or.inl rfl | exact Or.inr rfl) (pe_call GR.ok (hr.mono (by decide)) (by rfl) GR.m GR.kp GR.b .nil pass0 (pa_cons (pe_dc (own := [("part", 5)]) (g := (gName 5)) rfl scN_init.nd (pi_list (pe_fld (pv 0) rfl)) (blkOk_by (own := [("part", 5)]) (N := ["self", "parts", "outs", "pieces", "at", "part", "place"]) (sc := defScope sN_init) (by decide +kernel)) (fun _ _ _ _ _ => (pg_name (i := 5) scN_init.nd rfl (Or.inl rfl) (Or.inr rfl))) (fun _ _ _ _ _ => pts_nil) (fun _ _ _ _ _ => (pe_ix (ixT (K := K) rfl) (pv 5) pe_int (fun _ _ => rfl))) (fun _ _ _ _ _ => (pe_call GL.ok (hr.mono (by decide)) (by rfl) GL.m GL.kp GL.b .nil pass0 (pa_cons (pv 5) pa_nil)))) pa_nil)))
 (pss_one (ps_if (pt_cmpR op_notN (pv 6) pe_non (nomark _))
 (pss_one (ps_raise rfl (takes_of rfl rfl rfl rfl) (ExR.pmk_exo rfl (pe_mkG XR.x (hr.mono (by decide)) (by rfl) XR.kb (pa_cons (pv 6) pa_nil)))))
 pss_nil)))))))))))))))), ?_⟩
  -- the fields
  refine ⟨_, rfl, px, us, rfl, hpx.elim (fun h => .inl (SqL.of h)) (fun h => .inr (SqT.of h)), fun p hp => ?_⟩
  have nap : a ≠ p := ne_of_none ha hp
  refine ⟨_, rfl, a, C, dx, [], rfl, by rw [upd_ne nap]; exact ha, C'.cl, C'.p, (by show (0 : Nat) < 1000; decide), ?_⟩
  generalize hH1 : upd (upd H p (.lst us)) a (.ins C dx (putF "_parts" (.ref p) [])) = H1
  have k1 : Kp a H H1 := fun b ob hb n => by
    rw [← hH1, upd_ne n, upd_ne (ne_of_none hb hp)]
    exact hb
  have a1 : H1 a = some (.ins C dx [("_parts", .ref p)]) := by rw [← hH1]; exact upd_same
  have p1 : H1 p = some (.lst us) := by rw [← hH1, upd_ne nap.symm]; exact upd_same
  have hpy1 : H1 py = some (.lst (os.map V.str)) ∨ H1 py = some (.tup (os.map V.str)) := hpy.elim (fun h => .inl (k1 _ _ h npy)) (fun h => .inr (k1 _ _ h npy))
  refine ⟨_, rfl, py, os.map V.str, rfl, hpy1.elim (fun h => .inl (SqL.of h)) (fun h => .inr (SqT.of h)), fun o ho => ?_⟩
  have nao : a ≠ o := ne_of_none a1 ho
  have npo : p ≠ o := ne_of_none p1 ho
  refine ⟨_, rfl, a, C, dx, _, rfl, by rw [upd_ne nao]; exact a1, C'.cl, C'.o, (by show (1 : Nat) < 1000; decide), ?_⟩
  generalize hH2 : upd (upd H1 o (.lst (os.map V.str))) a (.ins C dx (putF "_outs" (.ref o) [("_parts", .ref p)])) = H2
  have k2 : Kp a H1 H2 := fun b ob hb n => by
    rw [← hH2, upd_ne n, upd_ne (ne_of_none hb ho)]
    exact hb
  have a2 : H2 a = some (.ins C dx [("_parts", .ref p), ("_outs", .ref o)]) := by rw [← hH2]; exact upd_same
  have p2 : H2 p = some (.lst us) := k2 _ _ p1 nap.symm
  have o2 : H2 o = some (.lst (os.map V.str)) := by rw [← hH2, upd_ne nao.symm]; exact upd_same
  refine ⟨_, rfl, rfl, _, rfl, iteT ?_⟩
  intro d hd
  have nad : a ≠ d := ne_of_none a2 hd
  refine ⟨_, rfl, a, C, dx, _, rfl, by rw [upd_ne nad]; exact a2, C'.cl, C'.d, (by show (2 : Nat) < 1000; decide), ?_⟩
  generalize hH3 : upd (upd H2 d (.dK [])) a (.ins C dx (putF "_pieces" (.ref d) [("_parts", .ref p), ("_outs", .ref o)])) = H3
  have k3 : Kp a H2 H3 := fun b ob hb n => by
    rw [← hH3, upd_ne n, upd_ne (ne_of_none hb hd)]
    exact hb
  have a3 : H3 a = some (.ins C dx [("_parts", .ref p), ("_outs", .ref o), ("_pieces", .ref d)]) := by rw [← hH3]; exact upd_same
  have p3 : H3 p = some (.lst us) := k3 _ _ p2 nap.symm
  have o3 : H3 o = some (.lst (os.map V.str)) := k3 _ _ o2 nao.symm
  have d3 : H3 d = some (.dK []) := by rw [← hH3, upd_ne nad.symm]; exact upd_same
  have k03 : Kp a H H3 := (k1.trans k2).trans k3
  have A3 : All2 (PtAt H3) us ps := hA.mono fun _ _ z => z.tups fun b xs hb => k03 _ _ hb (ne_of hb ha (by intro z; cases z))
  have pl := nk.l
  have pa3 : PsAt H3 p us ps := ⟨p3, A3, nk.ok, by omega⟩
  -- the parts, one by one
  refine ⟨_, rfl, a, C, dx, _, _, rfl, a3, C'.cl, C'.p, rfl, p, us, rfl, SqL.of p3, ?_⟩
  refine for_it walk_enum (fun i σ H4 => (∃ v4 v5 v6, σ = [some (.ref a), some (.ref px), some (.ref py), some .non, v4, v5, v6]) ∧ Same H3 H4) ⟨⟨_, _, _, rfl⟩, Same.refl _⟩ (fun i σ H4 _ h => SqL.of (h.2 _ _ p3)) ?_ ?_
  · rintro i v σ H4 H5 hi ⟨⟨v4, v5, v6, rfl⟩, s4⟩ ⟨t, x, y, rfl, ht, rfl, hx, hy⟩
    cases hx
    have hy : us[i]? = some y := hy
    have s5 := s4.trans (same_upd ht (.tup [.int i, y]))
    obtain ⟨pp, hp', pt, pl'⟩ := (pa3.same s5).nth hy
    refine ⟨t, _, rfl, SqT.of upd_same, rfl, _, _, rfl, _, _, rfl, rfl, ?_⟩
    refine ⟨_, rfl, y, pp, rfl, pt, pl'.ok, pl'.sm, pl'.nu, fun H6 s6 => ?_⟩
    exact ⟨_, rfl, iteF ⟨⟨_, _, _, rfl⟩, s5.trans s6⟩⟩
  rintro σ H4 ⟨⟨v4, v5, v6, rfl⟩, s4⟩
  have ln : us.length = ps.length := A3.1
  refine ⟨_, rfl, a, C, dx, _, _, rfl, s4 _ _ a3, C'.cl, C'.p, rfl, p, us, rfl, .inl (SqL.of (s4 _ _ p3)), _, rfl, a, C, dx, _, _, um, rfl, s4 _ _ a3, C'.cl, hmost, rfl, _, 16, rfl, rfl, _, rfl, ?_⟩
  by_cases h16 : ps.length ≤ 16
  case neg =>
    rw [show decide (((us.length : Nat) : Int) > 16) = true from decide_eq_true (by omega)]
    refine iteT ?_
    refine ⟨_, rfl, a, C, dx, _, _, um, rfl, s4 _ _ a3, C'.cl, hmost, rfl, rfl, rfl, (by decide), fun b hb => ?_⟩
    have k07 := k03.trans (Same.kp s4)
    exact mk_raise2 XT.x.T (fr0_none (show H b = none from kp_none k07 (s4 _ _ a3) hb)) hb fun d' H' s' hd' hd'' => XkK.to (bad .parts (by show 16 < ps.length; omega)) k07 (s4 _ _ a3) d' H' s' hd' hd''
  rw [show decide (((us.length : Nat) : Int) > 16) = false from decide_eq_false (by omega)]
  refine iteF ?_
  refine ⟨_, rfl, a, C, dx, _, _, rfl, s4 _ _ a3, C'.cl, C'.o, rfl, o, os, rfl, s4 _ _ o3, nk.oso, fun H5 s5' => ?_⟩
  have s5 := s4.trans s5'
  refine ⟨_, rfl, a, C, dx, _, _, rfl, s5 _ _ a3, C'.cl, C'.p, rfl, _, rfl, a, C, dx, _, _, rfl, s5 _ _ a3, C'.cl, C'.o, rfl, p, o, us, ps, os, rfl, pa3.same s5, s5 _ _ o3, ?_⟩
  have ka5 := k03.trans (Same.kp s5)
  cases hflt : wireFlt ps os with
  | some flt =>
    refine FltK.to (a := a) ?_ ka5 (s5 _ _ a3)
    cases flt with
    | dup w => exact bad (.dup w) ⟨h16, hflt⟩
    | unk w => exact bad (.unk w) ⟨h16, hflt⟩
  | none =>
  refine fun H6 s6' => ?_
  have s6 := s5.trans s6'
  refine ⟨_, rfl, a, dx, _, rfl, s6 _ _ a3, rfl, a, dx, p, _, us, ps, rfl, s6 _ _ a3, rfl, pa3.same s6, fun l H7 s7' hl hl7 => ?_⟩
  have s7 := s6.trans s7'
  refine ⟨l, _, rfl, .inl (SqL.of hl7), _, _, rfl, rfl, _, rfl, ?_⟩
  by_cases hsrc : (sourcesP ps).length ≤ 4
  case neg =>
    rw [show decide (((((sourcesP ps).map V.str).length : Nat) : Int) > 4) = true from decide_eq_true (by rw [List.length_map]; omega)]
    refine iteT ?_
    refine ⟨rfl, rfl, (by decide), fun b hb => ?_⟩
    have k07 := k03.trans (Same.kp s7)
    exact mk_raise2 XT.x.T (fr0_none (show H b = none from kp_none k07 (s7 _ _ a3) hb)) hb fun d' H' s' hd' hd'' => XkK.to (bad .src ⟨h16, hflt, by omega⟩) k07 (s7 _ _ a3) d' H' s' hd' hd''
  have wd := net_wired hflt
  rw [show decide (((((sourcesP ps).map V.str).length : Nat) : Int) > 4) = false from decide_eq_false (by rw [List.length_map]; omega)]
  refine iteF ?_
  refine ⟨_, rfl, a, C, dx, _, _, rfl, s7 _ _ a3, C'.cl, C'.p, rfl, _, rfl, a, C, dx, _, _, rfl, s7 _ _ a3, C'.cl, C'.d, rfl, p, us, ps, .ref d, rfl, pa3.same s7, fun H8 s8' => ?_⟩
  have s8 := s7.trans s8'
  refine ⟨_, rfl, a, C, dx, _, _, rfl, s8 _ _ a3, C'.cl, C'.p, rfl, _, rfl, a, C, dx, _, _, rfl, s8 _ _ a3, C'.cl, C'.d, rfl, p, us, ps, .ref d, rfl, pa3.same s8, fun m H9 s9' hm hm9 => ?_⟩
  have s9 := s8.trans s9'
  have nam : a ≠ m := ne_of_none (s8 _ _ a3) hm
  refine ⟨_, rfl, a, C, dx, _, rfl, s9 _ _ a3, C'.cl, C'.m, (by show (3 : Nat) < 1000; decide), ?_⟩
  generalize hH10 : upd H9 a (.ins C dx (putF "_plain" (.ref m) [("_parts", .ref p), ("_outs", .ref o), ("_pieces", .ref d)])) = H10
  have k10 : Kp a H9 H10 := fun b ob hb n => by
    rw [← hH10, upd_ne n]
    exact hb
  have a10 : H10 a = some (.ins C dx (netFs p o d m)) := by rw [← hH10]; exact upd_same
  have p10 : H10 p = some (.lst us) := k10 _ _ (s9 _ _ p3) nap.symm
  have o10 : H10 o = some (.lst (os.map V.str)) := k10 _ _ (s9 _ _ o3) nao.symm
  have d10 : H10 d = some (.dK []) := k10 _ _ (s9 _ _ d3) nad.symm
  have m10 : H10 m = some (.lst us) := k10 _ _ hm9 nam.symm
  have A10 : All2 (PtAt H10) us ps := (A3.mono fun _ _ z => z.tups (Same.tups s9)).mono fun _ _ z => z.tups fun b xs hb => k10 _ _ hb (ne_of hb (s9 _ _ a3) (by intro z; cases z))
  have pam : PsAt H10 m us ps := ⟨m10, A10, nk.ok, by omega⟩
  have k010 : Kp a H H10 := (k03.trans (Same.kp s9)).trans k10
  -- the plain net
  refine ⟨_, rfl, a, C, dx, _, _, rfl, a10, C'.cl, C'.m, rfl, m, us, rfl, .inl (SqL.of m10), _, _, rfl, rfl, _, rfl, ?_⟩
  rw [show decide (((us.length : Nat) : Int) > 24) = false from decide_eq_false (by omega)]
  refine iteF ?_
  refine ⟨_, rfl, a, dx, _, rfl, a10, rfl, a, dx, m, _, us, ps, rfl, a10, rfl, pam, fun l2 bs H11 s11 hl2 hl11 hb11 => ?_⟩
  refine ⟨l2, _, rfl, .inl (SqL.of hl11), _, rfl, a, C, dx, _, _, ub, rfl, s11 _ _ a10, C'.cl, hbox, rfl, _, 8, rfl, rfl, _, rfl, ?_⟩
  by_cases hbx : (boxesP ps).length ≤ 8
  case neg =>
    rw [show decide (((bs.length : Nat) : Int) > 8) = true from decide_eq_true (by rw [hb11.1]; omega)]
    refine iteT ?_
    refine ⟨_, rfl, a, C, dx, _, _, ub, rfl, s11 _ _ a10, C'.cl, hbox, rfl, rfl, rfl, (by decide), fun b hb => ?_⟩
    have k07 := k010.trans (Same.kp s11)
    exact mk_raise2 XT.x.T (fr0_none (show H b = none from kp_none k07 (s11 _ _ a10) hb)) hb fun d' H' s' hd' hd'' => XkK.to (bad .boxes ⟨h16, hflt, hsrc, by omega⟩) k07 (s11 _ _ a10) d' H' s' hd' hd''
  rw [show decide (((bs.length : Nat) : Int) > 8) = false from decide_eq_false (by rw [hb11.1]; omega)]
  refine iteF ?_
  refine ⟨_, rfl, a, dx, _, rfl, s11 _ _ a10, rfl, a, dx, m, _, us, ps, rfl, s11 _ _ a10, rfl, pam.same s11, fun l3 bs3 H12 s12' hl3 hl12 hb12 => ?_⟩
  have s12 := s11.trans s12'
  refine ⟨l3, bs3, boxesP ps, rfl, hl12, hb12, by omega, ?_⟩
  cases hun : unlikeOf (boxesP ps) with
  | some f => exact XkK.to (bad (.unlike f) ⟨h16, hflt, hsrc, hbx, hun⟩) (k010.trans (Same.kp s12)) (s12 _ _ a10)
  | none =>
  refine fun H13 s13' => ?_
  have s13 := s12.trans s13'
  -- no ring
  refine ⟨_, rfl, a, C, dx, _, _, rfl, s13 _ _ a10, C'.cl, C'.m, rfl, m, rfl, ⟨_, SqL.of (s13 _ _ m10)⟩, fun D hD => ?_⟩
  refine dc_lst (xs := us) (fun i H2 => Same H13 H2 ∧ ∃ kvs, H2 D = some (.dK kvs) ∧ All2 (EntryAt H2) kvs (graphP (ps.take i))) ⟨same_upd hD _, [], upd_same, rfl, fun i u v hu => by cases hu⟩ (fun i H2 _ h => SqL.of (h.1 _ _ (s13 _ _ m10))) (fun i x H2 hx ⟨s2, kvs, hD2, hG2⟩ => ?_) (fun H2 ⟨s2, kvs, hD2, hG2⟩ => ?_)
  · obtain ⟨pp, hpp, pt, pok⟩ := (pam.same (s13.trans s2)).nth hx
    obtain ⟨b, r, rfl, hb⟩ := pt.two
    have hi := (List.getElem?_eq_some_iff.mp hpp).1
    have tk : ps.take (i + 1) = ps.take i ++ [pp] := by rw [List.take_add_one, hpp]; rfl
    refine ⟨rfl, _, rfl, b, _, 1, _, rfl, rfl, SqT.of hb, atI_nat (j := 1) rfl, _, rfl, .ref b, pp, rfl, pt, pok.ok, pok.sm, pok.nu, fun l4 H4 s4 hl4 hl44 => ?_⟩
    have hw : (wiresP ps)[i]? = some (Pw pp) := by rw [List.getElem?_map, hpp]; rfl
    have hn : Pw pp ∉ (graphP (ps.take i)).map (·.1) := by
      rw [graphP_keys]
      have := nd_take wd.nd hw
      rw [← List.map_take] at this
      exact this
    have G4 : All2 (EntryAt H4) kvs (graphP (ps.take i)) := hG2.mono fun _ _ z => z.same s4
    refine ⟨kvs, Sum.inr (Pw pp), rfl, s4 _ _ hD2, ?_, fun c oc hc => ?_, kvs ++ [(Sum.inr (Pw pp), .ref l4)], ?_, ?_⟩
    · rw [hG2.1]
      unfold graphP
      rw [List.length_map]
      exact small1000 (Nat.le_trans (List.length_take_le _ _) (by omega))
    · rw [upd_ne (ne_of_none hc hD)]
      exact s4 _ _ (s2 _ _ hc)
    · rw [upd_same, putK_new _ (entries_none G4 hn)]
    · have nD : ∀ {e : Addr} {xs : List V}, H4 e = some (.lst xs) → e ≠ D := fun he => ne_of he (s4 _ _ hD2) (by intro z; cases z)
      rw [tk]
      unfold graphP
      rw [List.map_append]
      refine All2.snoc (G4.mono fun kv g z => ?_) ⟨rfl, l4, rfl, by rw [upd_ne (nD hl44)]; exact hl44⟩
      obtain ⟨e1, l, e2, hl⟩ := z
      exact ⟨e1, l, e2, by rw [upd_ne (nD hl)]; exact hl⟩
  rw [A10.1, List.take_length] at hG2
  refine ⟨D, kvs, graphP ps, rfl, hD2, hG2, net_gok nk wd, fun v H14 s14 fst => ?_⟩
  have s15 := (s13.trans s2).trans s14
  cases v with
  | str z =>
    refine ⟨_, rfl, rfl, _, rfl, iteT ?_⟩
    refine ⟨_, rfl, rfl, rfl, (by decide), fun b hb => ?_⟩
    have k15 := k010.trans (Same.kp s15)
    exact mk_raise1F XR.x.T (fr0_none (show H b = none from kp_none k15 (s15 _ _ a10) hb)) hb fun d' H' s' hd' hd'' => XkK.to (bad (.ring z) ⟨h16, hflt, hsrc, hbx, hun, fst⟩) k15 (s15 _ _ a10) d' H' s' hd' hd''
  | non =>
    refine ⟨_, rfl, rfl, _, rfl, iteF ?_⟩
    have ring : ∀ z, ¬ Rch (graphP ps) z z := fun z r => by
      rcases fst with ⟨_, h⟩ | ⟨i, y, _, _, _, e⟩
      · by_cases hz : z ∈ (graphP ps).map (·.1)
        · exact h z hz r
        · exact hz (r.key (net_gok nk wd))
      · cases e
    have nok : NetOk ps os := ⟨nk.ok, h16, wd.nd, wd.known, nk.oso, wd.outs, hsrc, hbx, agree_of hun, ring⟩
    exact q nok H14 (k010.trans (Same.kp s15)) ⟨⟨dx, p, o, d, m, s15 _ _ a10, s15 _ _ p10, s15 _ _ o10, s15 _ _ d10, s15 _ _ m10⟩, A10.mono fun _ _ z => z.tups (Same.tups s15), nok⟩
  | _ =>
    rcases fst with ⟨h, _⟩ | ⟨i, y, _, _, _, e⟩
    · cases h
    · cases e
end
end Un
namespace Un
open PySem L2 TL
section
variable {P : Program} {w : World} {K : PySem.W.Frag} {mg : Str → Option Value} {base : Heap}
/-! ### why a net is refused -/
abbrev sField : Stmt := top 69
abbrev sWhy : Stmt := top 66
theorem okE {x qual : Str} {st : Stmt} {f : Addr} {fd : FuncData} {N ps : List Str} {k : Nat} {sp : Addr → Value → Option Addr → Sp} (F : Fun K x qual st f fd) (S : FnScope N ps (defScope st)) (len : ∀ a cls d vs H Q E, sp a cls d vs H Q E → vs.length = ps.length)
    (hb : ∀ (cdv : Value) (A : Around) (outer : List Env) (s : Shared) (H : Hp) (vs : List V) (Q : VK) (E : XK) (p : Addr × Obj) (cls : Value) (d : Option Addr), ExR.Bears (L2H.cxH CX0 P w K mg base N qual (defScope st) f cdv A outer s H E p) p cls d → sp p.1 cls d vs H Q E →
      ∃ t, PSs (L2H.cxH CX0 P w K mg base N qual (defScope st) f cdv A outer s H E p) (defBody st) t ∧ t { nx := fun _ H' => Q .non H', rt := Q } (L2.start N vs) H) : ExR.FnE P w K mg base CX0 (k + 1) f fd ps sp := by
  obtain ⟨oc, od, kV, doc, pm, an, cdv, ct, osl, rfl, lk, hcd⟩ := F.ex
  exact ExR.fn_ofE lk hcd S len fun A outer s H vs Q E p cls d hz hf hr hsp => hb cdv A outer s H vs Q E p cls d ⟨List.mem_singleton.mpr rfl, hz, hf⟩ hsp
def attrsX : List Str := ["code", "at", "word", "name", "piece", "subject", "most", "place"]
inductive DueOf (fs : List (Str × V)) : Str → List V → Prop where
  | cInvalidPart {x : V} : fs.lookup ("at" : Str) = some x → DueOf fs "InvalidPart" [x]
  | cInvalidOuts {x : V} : fs.lookup ("at" : Str) = some x → DueOf fs "InvalidOuts" [x]
  | cInvalidUse {x : V} : fs.lookup ("at" : Str) = some x → DueOf fs "InvalidUse" [x]
  | cInvalidText {x : V} : fs.lookup ("word" : Str) = some x → DueOf fs "InvalidText" [x]
  | cDuplicateName {x : V} : fs.lookup ("name" : Str) = some x → DueOf fs "DuplicateName" [x]
  | cUnlikeKinds {x : V} : fs.lookup ("name" : Str) = some x → DueOf fs "UnlikeKinds" [x]
  | cUnknownName {x : V} : fs.lookup ("name" : Str) = some x → DueOf fs "UnknownName" [x]
  | cUnknownPiece {x : V} : fs.lookup ("piece" : Str) = some x → DueOf fs "UnknownPiece" [x]
  | cTooMany {x y : V} : fs.lookup ("subject" : Str) = some x → fs.lookup ("most" : Str) = some y → DueOf fs "TooMany" [x, y]
  | cRing {x : V} : fs.lookup ("place" : Str) = some x → DueOf fs "Ring" [x]
structure ErrAt (K : PySem.W.Frag) (H : Hp) (cls : Value) (d : Option Addr) (code : Str) (due : List V) : Prop where
  ex : ∃ C dd fs, cls = .ref C ∧ XfC K C ∧ (∀ n ∈ attrsX, PySem.W.findIn K (.ref C) n = some none) ∧ d = some dd ∧ H dd = some (exd dd fs) ∧ fs.lookup ("code" : Str) = some (.str code) ∧ DueOf fs code due
theorem ErrAt.same {H H' : Hp} {cls : Value} {d : Option Addr} {code : Str} {due : List V} (h : ErrAt K H cls d code due) (s : Same H H') : ErrAt K H' cls d code due := by
  obtain ⟨C, dd, fs, h1, h2, h3, h4, h5, h6⟩ := h.ex
  exact ⟨C, dd, fs, h1, h2, h3, h4, s _ _ h5, h6⟩
def spFieldE (K : PySem.W.Frag) (a : Addr) (cls : Value) (d : Option Addr) : Sp := fun vs H Q _ => ∃ (code : Str) (due : List V), vs = [.ref a] ∧ ErrAt K H cls d code due ∧ ∀ t H', Same H H' → H t = none → H' t = some (.tup due) → Q (.ref t) H'
theorem scField : FnScope ["_law_e", "_law_code"] ["_law_e"] (defScope sField) := ⟨rfl, rfl, rfl, by decide +kernel, rfl, by decide +kernel, by decide +kernel⟩
theorem ok_fieldE {f : Addr} {fd : FuncData} (F : Fun K "_law_field" "_law_field" sField f fd) : ExR.FnE P w K mg base CX0 1 f fd ["_law_e"] (spFieldE K) := by
  refine okE F scField (fun a cls d vs H Q E h => ?_) (fun cdv A outer s H vs Q E p cls d B h => ?_)
  · obtain ⟨code, due, rfl, _⟩ := h
    rfl
  obtain ⟨code, due, rfl, er, q⟩ := h
  obtain ⟨C, dd, fs, hcl, hxf, hat, hd, hdd, hc, hdue⟩ := er.ex
  refine ⟨_, (pss_cons (ps_set (i := 1) scField.nd rfl (by first | exact Or.inl rfl | exact Or.inr rfl) (ExR.pe_xe B (pv 0)))
 (pss_cons (ps_if (pt_cmpR op_in_seq (pv 1) (pe_tup (pa_cons pe_str (pa_cons pe_str (pa_cons pe_str pa_nil)))) (by rfl))
 pss_never
 pss_nil)
 (pss_cons (ps_if (pt_cmpR op_in_seq (pv 1) (pe_tup (pa_cons pe_str (pa_cons pe_str (pa_cons pe_str (pa_cons pe_str (pa_cons pe_str (pa_cons pe_str (pa_cons pe_str pa_nil)))))))) (by rfl))
 (pss_one (ps_ret (pe_tup (pa_cons (ExR.pe_xe B (pv 0)) pa_nil))))
 pss_nil)
 (pss_cons (ps_if (pt_cmpR op_in_seq (pv 1) (pe_tup (pa_cons pe_str (pa_cons pe_str pa_nil))) (by rfl))
 (pss_one (ps_ret (pe_tup (pa_cons (pe_ifExp (pt_cmpR op_eq (pv 1) pe_str (nomark _)) (ExR.pe_xe B (pv 0)) (ExR.pe_xe B (pv 0))) pa_nil))))
 pss_nil)
 (pss_cons (ps_if (pt_cmpR op_in_seq (pv 1) (pe_tup (pa_cons pe_str (pa_cons pe_str (pa_cons pe_str pa_nil)))) (by rfl))
 (pss_one (ps_ret (pe_tup (pa_cons (ExR.pe_xe B (pv 0)) pa_nil))))
 pss_nil)
 (pss_cons (ps_if (pt_cmpR op_in_seq (pv 1) (pe_tup (pa_cons pe_str (pa_cons pe_str pa_nil))) (by rfl))
 (pss_one (ps_ret (pe_tup (pa_cons (ExR.pe_xe B (pv 0)) pa_nil))))
 pss_nil)
 (pss_cons (ps_if (pt_cmpR op_in_seq (pv 1) (pe_tup (pa_cons pe_str (pa_cons pe_str pa_nil))) (by rfl))
 (pss_one (ps_ret (pe_ifExp (pt_cmpR op_eq (pv 1) pe_str (nomark _)) (pe_tup (pa_cons (ExR.pe_xe B (pv 0)) (pa_cons (ExR.pe_xe B (pv 0)) pa_nil))) (pe_tup (pa_cons (ExR.pe_xe B (pv 0)) (pa_cons (ExR.pe_xe B (pv 0)) pa_nil))))))
 pss_nil)
 (pss_cons (ps_if (pt_cmpR op_in_seq (pv 1) (pe_tup (pa_cons pe_str (pa_cons pe_str pa_nil))) (by rfl))
 pss_never
 pss_nil)
 (pss_cons (ps_if (pt_cmpR op_in_seq (pv 1) (pe_tup (pa_cons pe_str (pa_cons pe_str pa_nil))) (by rfl))
 (pss_one (ps_ret (pe_tup (pa_cons (pe_ifExp (pt_cmpR op_eq (pv 1) pe_str (nomark _)) (ExR.pe_xe B (pv 0)) (ExR.pe_xe B (pv 0))) pa_nil))))
 pss_nil)
 (pss_one (ps_ret (pe_tup pa_nil)))))))))))), ?_⟩
  refine ⟨_, rfl, C, dd, fs, _, rfl, hcl, hxf, hat _ (by decide), hd, hdd, hc, ?_⟩
  have fin : ∀ {H1 H2 : Hp} {t : Addr}, Same H H1 → H1 t = none → H2 = upd H1 t (.tup due) → Q (.ref t) H2 := fun s ht e => q _ _ (by rw [e]; exact s.trans (same_upd ht _)) (s.free ht) (by rw [e]; exact upd_same)
  cases hdue with
  | cInvalidPart hx =>
    refine ⟨_, rfl, (by show 3 ≤ sizeLine; decide), fun t0 q0 => ⟨t0, _, rfl, .inr (SqT.of upd_same), rfl, rfl, _, rfl, ?_⟩⟩
    have s0 := same_upd q0 (.tup [V.str "InvalidName", V.str "InvalidNumber", V.str "InvalidLimit"])
    generalize (upd H t0 (.tup [V.str "InvalidName", V.str "InvalidNumber", V.str "InvalidLimit"])) = G0 at s0 ⊢
    rw [show inV (V.str "InvalidPart") [V.str "InvalidName", V.str "InvalidNumber", V.str "InvalidLimit"] = false by decide +kernel]
    refine iteF ?_
    refine ⟨_, rfl, (by show 7 ≤ sizeLine; decide), fun t1 q1 => ⟨t1, _, rfl, .inr (SqT.of upd_same), rfl, rfl, _, rfl, ?_⟩⟩
    have s1 := s0.trans (same_upd q1 (.tup [V.str "InvalidPart", V.str "InvalidOuts", V.str "InvalidUse", V.str "InvalidSheet", V.str "InvalidFact", V.str "InvalidDeed", V.str "InvalidCommand"]))
    generalize (upd G0 t1 (.tup [V.str "InvalidPart", V.str "InvalidOuts", V.str "InvalidUse", V.str "InvalidSheet", V.str "InvalidFact", V.str "InvalidDeed", V.str "InvalidCommand"])) = G1 at s1 ⊢
    rw [show inV (V.str "InvalidPart") [V.str "InvalidPart", V.str "InvalidOuts", V.str "InvalidUse", V.str "InvalidSheet", V.str "InvalidFact", V.str "InvalidDeed", V.str "InvalidCommand"] = true by decide +kernel]
    refine iteT ?_
    exact ⟨_, rfl, C, dd, fs, _, rfl, hcl, hxf, hat _ (by decide), hd, s1 _ _ hdd, hx, (by show 1 ≤ sizeLine; decide), fun t ht => fin s1 ht rfl⟩
  | cInvalidOuts hx =>
    refine ⟨_, rfl, (by show 3 ≤ sizeLine; decide), fun t0 q0 => ⟨t0, _, rfl, .inr (SqT.of upd_same), rfl, rfl, _, rfl, ?_⟩⟩
    have s0 := same_upd q0 (.tup [V.str "InvalidName", V.str "InvalidNumber", V.str "InvalidLimit"])
    generalize (upd H t0 (.tup [V.str "InvalidName", V.str "InvalidNumber", V.str "InvalidLimit"])) = G0 at s0 ⊢
    rw [show inV (V.str "InvalidOuts") [V.str "InvalidName", V.str "InvalidNumber", V.str "InvalidLimit"] = false by decide +kernel]
    refine iteF ?_
    refine ⟨_, rfl, (by show 7 ≤ sizeLine; decide), fun t1 q1 => ⟨t1, _, rfl, .inr (SqT.of upd_same), rfl, rfl, _, rfl, ?_⟩⟩
    have s1 := s0.trans (same_upd q1 (.tup [V.str "InvalidPart", V.str "InvalidOuts", V.str "InvalidUse", V.str "InvalidSheet", V.str "InvalidFact", V.str "InvalidDeed", V.str "InvalidCommand"]))
    generalize (upd G0 t1 (.tup [V.str "InvalidPart", V.str "InvalidOuts", V.str "InvalidUse", V.str "InvalidSheet", V.str "InvalidFact", V.str "InvalidDeed", V.str "InvalidCommand"])) = G1 at s1 ⊢
    rw [show inV (V.str "InvalidOuts") [V.str "InvalidPart", V.str "InvalidOuts", V.str "InvalidUse", V.str "InvalidSheet", V.str "InvalidFact", V.str "InvalidDeed", V.str "InvalidCommand"] = true by decide +kernel]
    refine iteT ?_
    exact ⟨_, rfl, C, dd, fs, _, rfl, hcl, hxf, hat _ (by decide), hd, s1 _ _ hdd, hx, (by show 1 ≤ sizeLine; decide), fun t ht => fin s1 ht rfl⟩
  | cInvalidUse hx =>
    refine ⟨_, rfl, (by show 3 ≤ sizeLine; decide), fun t0 q0 => ⟨t0, _, rfl, .inr (SqT.of upd_same), rfl, rfl, _, rfl, ?_⟩⟩
    have s0 := same_upd q0 (.tup [V.str "InvalidName", V.str "InvalidNumber", V.str "InvalidLimit"])
    generalize (upd H t0 (.tup [V.str "InvalidName", V.str "InvalidNumber", V.str "InvalidLimit"])) = G0 at s0 ⊢
    rw [show inV (V.str "InvalidUse") [V.str "InvalidName", V.str "InvalidNumber", V.str "InvalidLimit"] = false by decide +kernel]
    refine iteF ?_
    refine ⟨_, rfl, (by show 7 ≤ sizeLine; decide), fun t1 q1 => ⟨t1, _, rfl, .inr (SqT.of upd_same), rfl, rfl, _, rfl, ?_⟩⟩
    have s1 := s0.trans (same_upd q1 (.tup [V.str "InvalidPart", V.str "InvalidOuts", V.str "InvalidUse", V.str "InvalidSheet", V.str "InvalidFact", V.str "InvalidDeed", V.str "InvalidCommand"]))
    generalize (upd G0 t1 (.tup [V.str "InvalidPart", V.str "InvalidOuts", V.str "InvalidUse", V.str "InvalidSheet", V.str "InvalidFact", V.str "InvalidDeed", V.str "InvalidCommand"])) = G1 at s1 ⊢
    rw [show inV (V.str "InvalidUse") [V.str "InvalidPart", V.str "InvalidOuts", V.str "InvalidUse", V.str "InvalidSheet", V.str "InvalidFact", V.str "InvalidDeed", V.str "InvalidCommand"] = true by decide +kernel]
    refine iteT ?_
    exact ⟨_, rfl, C, dd, fs, _, rfl, hcl, hxf, hat _ (by decide), hd, s1 _ _ hdd, hx, (by show 1 ≤ sizeLine; decide), fun t ht => fin s1 ht rfl⟩
  | cInvalidText hx =>
    refine ⟨_, rfl, (by show 3 ≤ sizeLine; decide), fun t0 q0 => ⟨t0, _, rfl, .inr (SqT.of upd_same), rfl, rfl, _, rfl, ?_⟩⟩
    have s0 := same_upd q0 (.tup [V.str "InvalidName", V.str "InvalidNumber", V.str "InvalidLimit"])
    generalize (upd H t0 (.tup [V.str "InvalidName", V.str "InvalidNumber", V.str "InvalidLimit"])) = G0 at s0 ⊢
    rw [show inV (V.str "InvalidText") [V.str "InvalidName", V.str "InvalidNumber", V.str "InvalidLimit"] = false by decide +kernel]
    refine iteF ?_
    refine ⟨_, rfl, (by show 7 ≤ sizeLine; decide), fun t1 q1 => ⟨t1, _, rfl, .inr (SqT.of upd_same), rfl, rfl, _, rfl, ?_⟩⟩
    have s1 := s0.trans (same_upd q1 (.tup [V.str "InvalidPart", V.str "InvalidOuts", V.str "InvalidUse", V.str "InvalidSheet", V.str "InvalidFact", V.str "InvalidDeed", V.str "InvalidCommand"]))
    generalize (upd G0 t1 (.tup [V.str "InvalidPart", V.str "InvalidOuts", V.str "InvalidUse", V.str "InvalidSheet", V.str "InvalidFact", V.str "InvalidDeed", V.str "InvalidCommand"])) = G1 at s1 ⊢
    rw [show inV (V.str "InvalidText") [V.str "InvalidPart", V.str "InvalidOuts", V.str "InvalidUse", V.str "InvalidSheet", V.str "InvalidFact", V.str "InvalidDeed", V.str "InvalidCommand"] = false by decide +kernel]
    refine iteF ?_
    refine ⟨_, rfl, (by show 2 ≤ sizeLine; decide), fun t2 q2 => ⟨t2, _, rfl, .inr (SqT.of upd_same), rfl, rfl, _, rfl, ?_⟩⟩
    have s2 := s1.trans (same_upd q2 (.tup [V.str "InvalidText", V.str "InvalidPage"]))
    generalize (upd G1 t2 (.tup [V.str "InvalidText", V.str "InvalidPage"])) = G2 at s2 ⊢
    rw [show inV (V.str "InvalidText") [V.str "InvalidText", V.str "InvalidPage"] = true by decide +kernel]
    refine iteT ?_
    exact ⟨_, rfl, rfl, _, rfl, iteT ⟨_, rfl, C, dd, fs, _, rfl, hcl, hxf, hat _ (by decide), hd, s2 _ _ hdd, hx, (by show 1 ≤ sizeLine; decide), fun t ht => fin s2 ht rfl⟩⟩
  | cDuplicateName hx =>
    refine ⟨_, rfl, (by show 3 ≤ sizeLine; decide), fun t0 q0 => ⟨t0, _, rfl, .inr (SqT.of upd_same), rfl, rfl, _, rfl, ?_⟩⟩
    have s0 := same_upd q0 (.tup [V.str "InvalidName", V.str "InvalidNumber", V.str "InvalidLimit"])
    generalize (upd H t0 (.tup [V.str "InvalidName", V.str "InvalidNumber", V.str "InvalidLimit"])) = G0 at s0 ⊢
    rw [show inV (V.str "DuplicateName") [V.str "InvalidName", V.str "InvalidNumber", V.str "InvalidLimit"] = false by decide +kernel]
    refine iteF ?_
    refine ⟨_, rfl, (by show 7 ≤ sizeLine; decide), fun t1 q1 => ⟨t1, _, rfl, .inr (SqT.of upd_same), rfl, rfl, _, rfl, ?_⟩⟩
    have s1 := s0.trans (same_upd q1 (.tup [V.str "InvalidPart", V.str "InvalidOuts", V.str "InvalidUse", V.str "InvalidSheet", V.str "InvalidFact", V.str "InvalidDeed", V.str "InvalidCommand"]))
    generalize (upd G0 t1 (.tup [V.str "InvalidPart", V.str "InvalidOuts", V.str "InvalidUse", V.str "InvalidSheet", V.str "InvalidFact", V.str "InvalidDeed", V.str "InvalidCommand"])) = G1 at s1 ⊢
    rw [show inV (V.str "DuplicateName") [V.str "InvalidPart", V.str "InvalidOuts", V.str "InvalidUse", V.str "InvalidSheet", V.str "InvalidFact", V.str "InvalidDeed", V.str "InvalidCommand"] = false by decide +kernel]
    refine iteF ?_
    refine ⟨_, rfl, (by show 2 ≤ sizeLine; decide), fun t2 q2 => ⟨t2, _, rfl, .inr (SqT.of upd_same), rfl, rfl, _, rfl, ?_⟩⟩
    have s2 := s1.trans (same_upd q2 (.tup [V.str "InvalidText", V.str "InvalidPage"]))
    generalize (upd G1 t2 (.tup [V.str "InvalidText", V.str "InvalidPage"])) = G2 at s2 ⊢
    rw [show inV (V.str "DuplicateName") [V.str "InvalidText", V.str "InvalidPage"] = false by decide +kernel]
    refine iteF ?_
    refine ⟨_, rfl, (by show 3 ≤ sizeLine; decide), fun t3 q3 => ⟨t3, _, rfl, .inr (SqT.of upd_same), rfl, rfl, _, rfl, ?_⟩⟩
    have s3 := s2.trans (same_upd q3 (.tup [V.str "DuplicateName", V.str "UnlikeKinds", V.str "UnknownName"]))
    generalize (upd G2 t3 (.tup [V.str "DuplicateName", V.str "UnlikeKinds", V.str "UnknownName"])) = G3 at s3 ⊢
    rw [show inV (V.str "DuplicateName") [V.str "DuplicateName", V.str "UnlikeKinds", V.str "UnknownName"] = true by decide +kernel]
    refine iteT ?_
    exact ⟨_, rfl, C, dd, fs, _, rfl, hcl, hxf, hat _ (by decide), hd, s3 _ _ hdd, hx, (by show 1 ≤ sizeLine; decide), fun t ht => fin s3 ht rfl⟩
  | cUnlikeKinds hx =>
    refine ⟨_, rfl, (by show 3 ≤ sizeLine; decide), fun t0 q0 => ⟨t0, _, rfl, .inr (SqT.of upd_same), rfl, rfl, _, rfl, ?_⟩⟩
    have s0 := same_upd q0 (.tup [V.str "InvalidName", V.str "InvalidNumber", V.str "InvalidLimit"])
    generalize (upd H t0 (.tup [V.str "InvalidName", V.str "InvalidNumber", V.str "InvalidLimit"])) = G0 at s0 ⊢
    rw [show inV (V.str "UnlikeKinds") [V.str "InvalidName", V.str "InvalidNumber", V.str "InvalidLimit"] = false by decide +kernel]
    refine iteF ?_
    refine ⟨_, rfl, (by show 7 ≤ sizeLine; decide), fun t1 q1 => ⟨t1, _, rfl, .inr (SqT.of upd_same), rfl, rfl, _, rfl, ?_⟩⟩
    have s1 := s0.trans (same_upd q1 (.tup [V.str "InvalidPart", V.str "InvalidOuts", V.str "InvalidUse", V.str "InvalidSheet", V.str "InvalidFact", V.str "InvalidDeed", V.str "InvalidCommand"]))
    generalize (upd G0 t1 (.tup [V.str "InvalidPart", V.str "InvalidOuts", V.str "InvalidUse", V.str "InvalidSheet", V.str "InvalidFact", V.str "InvalidDeed", V.str "InvalidCommand"])) = G1 at s1 ⊢
    rw [show inV (V.str "UnlikeKinds") [V.str "InvalidPart", V.str "InvalidOuts", V.str "InvalidUse", V.str "InvalidSheet", V.str "InvalidFact", V.str "InvalidDeed", V.str "InvalidCommand"] = false by decide +kernel]
    refine iteF ?_
    refine ⟨_, rfl, (by show 2 ≤ sizeLine; decide), fun t2 q2 => ⟨t2, _, rfl, .inr (SqT.of upd_same), rfl, rfl, _, rfl, ?_⟩⟩
    have s2 := s1.trans (same_upd q2 (.tup [V.str "InvalidText", V.str "InvalidPage"]))
    generalize (upd G1 t2 (.tup [V.str "InvalidText", V.str "InvalidPage"])) = G2 at s2 ⊢
    rw [show inV (V.str "UnlikeKinds") [V.str "InvalidText", V.str "InvalidPage"] = false by decide +kernel]
    refine iteF ?_
    refine ⟨_, rfl, (by show 3 ≤ sizeLine; decide), fun t3 q3 => ⟨t3, _, rfl, .inr (SqT.of upd_same), rfl, rfl, _, rfl, ?_⟩⟩
    have s3 := s2.trans (same_upd q3 (.tup [V.str "DuplicateName", V.str "UnlikeKinds", V.str "UnknownName"]))
    generalize (upd G2 t3 (.tup [V.str "DuplicateName", V.str "UnlikeKinds", V.str "UnknownName"])) = G3 at s3 ⊢
    rw [show inV (V.str "UnlikeKinds") [V.str "DuplicateName", V.str "UnlikeKinds", V.str "UnknownName"] = true by decide +kernel]
    refine iteT ?_
    exact ⟨_, rfl, C, dd, fs, _, rfl, hcl, hxf, hat _ (by decide), hd, s3 _ _ hdd, hx, (by show 1 ≤ sizeLine; decide), fun t ht => fin s3 ht rfl⟩
  | cUnknownName hx =>
    refine ⟨_, rfl, (by show 3 ≤ sizeLine; decide), fun t0 q0 => ⟨t0, _, rfl, .inr (SqT.of upd_same), rfl, rfl, _, rfl, ?_⟩⟩
    have s0 := same_upd q0 (.tup [V.str "InvalidName", V.str "InvalidNumber", V.str "InvalidLimit"])
    generalize (upd H t0 (.tup [V.str "InvalidName", V.str "InvalidNumber", V.str "InvalidLimit"])) = G0 at s0 ⊢
    rw [show inV (V.str "UnknownName") [V.str "InvalidName", V.str "InvalidNumber", V.str "InvalidLimit"] = false by decide +kernel]
    refine iteF ?_
    refine ⟨_, rfl, (by show 7 ≤ sizeLine; decide), fun t1 q1 => ⟨t1, _, rfl, .inr (SqT.of upd_same), rfl, rfl, _, rfl, ?_⟩⟩
    have s1 := s0.trans (same_upd q1 (.tup [V.str "InvalidPart", V.str "InvalidOuts", V.str "InvalidUse", V.str "InvalidSheet", V.str "InvalidFact", V.str "InvalidDeed", V.str "InvalidCommand"]))
    generalize (upd G0 t1 (.tup [V.str "InvalidPart", V.str "InvalidOuts", V.str "InvalidUse", V.str "InvalidSheet", V.str "InvalidFact", V.str "InvalidDeed", V.str "InvalidCommand"])) = G1 at s1 ⊢
    rw [show inV (V.str "UnknownName") [V.str "InvalidPart", V.str "InvalidOuts", V.str "InvalidUse", V.str "InvalidSheet", V.str "InvalidFact", V.str "InvalidDeed", V.str "InvalidCommand"] = false by decide +kernel]
    refine iteF ?_
    refine ⟨_, rfl, (by show 2 ≤ sizeLine; decide), fun t2 q2 => ⟨t2, _, rfl, .inr (SqT.of upd_same), rfl, rfl, _, rfl, ?_⟩⟩
    have s2 := s1.trans (same_upd q2 (.tup [V.str "InvalidText", V.str "InvalidPage"]))
    generalize (upd G1 t2 (.tup [V.str "InvalidText", V.str "InvalidPage"])) = G2 at s2 ⊢
    rw [show inV (V.str "UnknownName") [V.str "InvalidText", V.str "InvalidPage"] = false by decide +kernel]
    refine iteF ?_
    refine ⟨_, rfl, (by show 3 ≤ sizeLine; decide), fun t3 q3 => ⟨t3, _, rfl, .inr (SqT.of upd_same), rfl, rfl, _, rfl, ?_⟩⟩
    have s3 := s2.trans (same_upd q3 (.tup [V.str "DuplicateName", V.str "UnlikeKinds", V.str "UnknownName"]))
    generalize (upd G2 t3 (.tup [V.str "DuplicateName", V.str "UnlikeKinds", V.str "UnknownName"])) = G3 at s3 ⊢
    rw [show inV (V.str "UnknownName") [V.str "DuplicateName", V.str "UnlikeKinds", V.str "UnknownName"] = true by decide +kernel]
    refine iteT ?_
    exact ⟨_, rfl, C, dd, fs, _, rfl, hcl, hxf, hat _ (by decide), hd, s3 _ _ hdd, hx, (by show 1 ≤ sizeLine; decide), fun t ht => fin s3 ht rfl⟩
  | cUnknownPiece hx =>
    refine ⟨_, rfl, (by show 3 ≤ sizeLine; decide), fun t0 q0 => ⟨t0, _, rfl, .inr (SqT.of upd_same), rfl, rfl, _, rfl, ?_⟩⟩
    have s0 := same_upd q0 (.tup [V.str "InvalidName", V.str "InvalidNumber", V.str "InvalidLimit"])
    generalize (upd H t0 (.tup [V.str "InvalidName", V.str "InvalidNumber", V.str "InvalidLimit"])) = G0 at s0 ⊢
    rw [show inV (V.str "UnknownPiece") [V.str "InvalidName", V.str "InvalidNumber", V.str "InvalidLimit"] = false by decide +kernel]
    refine iteF ?_
    refine ⟨_, rfl, (by show 7 ≤ sizeLine; decide), fun t1 q1 => ⟨t1, _, rfl, .inr (SqT.of upd_same), rfl, rfl, _, rfl, ?_⟩⟩
    have s1 := s0.trans (same_upd q1 (.tup [V.str "InvalidPart", V.str "InvalidOuts", V.str "InvalidUse", V.str "InvalidSheet", V.str "InvalidFact", V.str "InvalidDeed", V.str "InvalidCommand"]))
    generalize (upd G0 t1 (.tup [V.str "InvalidPart", V.str "InvalidOuts", V.str "InvalidUse", V.str "InvalidSheet", V.str "InvalidFact", V.str "InvalidDeed", V.str "InvalidCommand"])) = G1 at s1 ⊢
    rw [show inV (V.str "UnknownPiece") [V.str "InvalidPart", V.str "InvalidOuts", V.str "InvalidUse", V.str "InvalidSheet", V.str "InvalidFact", V.str "InvalidDeed", V.str "InvalidCommand"] = false by decide +kernel]
    refine iteF ?_
    refine ⟨_, rfl, (by show 2 ≤ sizeLine; decide), fun t2 q2 => ⟨t2, _, rfl, .inr (SqT.of upd_same), rfl, rfl, _, rfl, ?_⟩⟩
    have s2 := s1.trans (same_upd q2 (.tup [V.str "InvalidText", V.str "InvalidPage"]))
    generalize (upd G1 t2 (.tup [V.str "InvalidText", V.str "InvalidPage"])) = G2 at s2 ⊢
    rw [show inV (V.str "UnknownPiece") [V.str "InvalidText", V.str "InvalidPage"] = false by decide +kernel]
    refine iteF ?_
    refine ⟨_, rfl, (by show 3 ≤ sizeLine; decide), fun t3 q3 => ⟨t3, _, rfl, .inr (SqT.of upd_same), rfl, rfl, _, rfl, ?_⟩⟩
    have s3 := s2.trans (same_upd q3 (.tup [V.str "DuplicateName", V.str "UnlikeKinds", V.str "UnknownName"]))
    generalize (upd G2 t3 (.tup [V.str "DuplicateName", V.str "UnlikeKinds", V.str "UnknownName"])) = G3 at s3 ⊢
    rw [show inV (V.str "UnknownPiece") [V.str "DuplicateName", V.str "UnlikeKinds", V.str "UnknownName"] = false by decide +kernel]
    refine iteF ?_
    refine ⟨_, rfl, (by show 2 ≤ sizeLine; decide), fun t4 q4 => ⟨t4, _, rfl, .inr (SqT.of upd_same), rfl, rfl, _, rfl, ?_⟩⟩
    have s4 := s3.trans (same_upd q4 (.tup [V.str "Circular", V.str "UnknownPiece"]))
    generalize (upd G3 t4 (.tup [V.str "Circular", V.str "UnknownPiece"])) = G4 at s4 ⊢
    rw [show inV (V.str "UnknownPiece") [V.str "Circular", V.str "UnknownPiece"] = true by decide +kernel]
    refine iteT ?_
    exact ⟨_, rfl, C, dd, fs, _, rfl, hcl, hxf, hat _ (by decide), hd, s4 _ _ hdd, hx, (by show 1 ≤ sizeLine; decide), fun t ht => fin s4 ht rfl⟩
  | cTooMany hx hy =>
    refine ⟨_, rfl, (by show 3 ≤ sizeLine; decide), fun t0 q0 => ⟨t0, _, rfl, .inr (SqT.of upd_same), rfl, rfl, _, rfl, ?_⟩⟩
    have s0 := same_upd q0 (.tup [V.str "InvalidName", V.str "InvalidNumber", V.str "InvalidLimit"])
    generalize (upd H t0 (.tup [V.str "InvalidName", V.str "InvalidNumber", V.str "InvalidLimit"])) = G0 at s0 ⊢
    rw [show inV (V.str "TooMany") [V.str "InvalidName", V.str "InvalidNumber", V.str "InvalidLimit"] = false by decide +kernel]
    refine iteF ?_
    refine ⟨_, rfl, (by show 7 ≤ sizeLine; decide), fun t1 q1 => ⟨t1, _, rfl, .inr (SqT.of upd_same), rfl, rfl, _, rfl, ?_⟩⟩
    have s1 := s0.trans (same_upd q1 (.tup [V.str "InvalidPart", V.str "InvalidOuts", V.str "InvalidUse", V.str "InvalidSheet", V.str "InvalidFact", V.str "InvalidDeed", V.str "InvalidCommand"]))
    generalize (upd G0 t1 (.tup [V.str "InvalidPart", V.str "InvalidOuts", V.str "InvalidUse", V.str "InvalidSheet", V.str "InvalidFact", V.str "InvalidDeed", V.str "InvalidCommand"])) = G1 at s1 ⊢
    rw [show inV (V.str "TooMany") [V.str "InvalidPart", V.str "InvalidOuts", V.str "InvalidUse", V.str "InvalidSheet", V.str "InvalidFact", V.str "InvalidDeed", V.str "InvalidCommand"] = false by decide +kernel]
    refine iteF ?_
    refine ⟨_, rfl, (by show 2 ≤ sizeLine; decide), fun t2 q2 => ⟨t2, _, rfl, .inr (SqT.of upd_same), rfl, rfl, _, rfl, ?_⟩⟩
    have s2 := s1.trans (same_upd q2 (.tup [V.str "InvalidText", V.str "InvalidPage"]))
    generalize (upd G1 t2 (.tup [V.str "InvalidText", V.str "InvalidPage"])) = G2 at s2 ⊢
    rw [show inV (V.str "TooMany") [V.str "InvalidText", V.str "InvalidPage"] = false by decide +kernel]
    refine iteF ?_
    refine ⟨_, rfl, (by show 3 ≤ sizeLine; decide), fun t3 q3 => ⟨t3, _, rfl, .inr (SqT.of upd_same), rfl, rfl, _, rfl, ?_⟩⟩
    have s3 := s2.trans (same_upd q3 (.tup [V.str "DuplicateName", V.str "UnlikeKinds", V.str "UnknownName"]))
    generalize (upd G2 t3 (.tup [V.str "DuplicateName", V.str "UnlikeKinds", V.str "UnknownName"])) = G3 at s3 ⊢
    rw [show inV (V.str "TooMany") [V.str "DuplicateName", V.str "UnlikeKinds", V.str "UnknownName"] = false by decide +kernel]
    refine iteF ?_
    refine ⟨_, rfl, (by show 2 ≤ sizeLine; decide), fun t4 q4 => ⟨t4, _, rfl, .inr (SqT.of upd_same), rfl, rfl, _, rfl, ?_⟩⟩
    have s4 := s3.trans (same_upd q4 (.tup [V.str "Circular", V.str "UnknownPiece"]))
    generalize (upd G3 t4 (.tup [V.str "Circular", V.str "UnknownPiece"])) = G4 at s4 ⊢
    rw [show inV (V.str "TooMany") [V.str "Circular", V.str "UnknownPiece"] = false by decide +kernel]
    refine iteF ?_
    refine ⟨_, rfl, (by show 2 ≤ sizeLine; decide), fun t5 q5 => ⟨t5, _, rfl, .inr (SqT.of upd_same), rfl, rfl, _, rfl, ?_⟩⟩
    have s5 := s4.trans (same_upd q5 (.tup [V.str "InUse", V.str "TooMany"]))
    generalize (upd G4 t5 (.tup [V.str "InUse", V.str "TooMany"])) = G5 at s5 ⊢
    rw [show inV (V.str "TooMany") [V.str "InUse", V.str "TooMany"] = true by decide +kernel]
    refine iteT ?_
    exact ⟨_, rfl, rfl, _, rfl, iteF ⟨_, rfl, C, dd, fs, _, rfl, hcl, hxf, hat _ (by decide), hd, s5 _ _ hdd, hx, _, rfl, C, dd, fs, _, rfl, hcl, hxf, hat _ (by decide), hd, s5 _ _ hdd, hy, (by show 2 ≤ sizeLine; decide), fun t ht => fin s5 ht rfl⟩⟩
  | cRing hx =>
    refine ⟨_, rfl, (by show 3 ≤ sizeLine; decide), fun t0 q0 => ⟨t0, _, rfl, .inr (SqT.of upd_same), rfl, rfl, _, rfl, ?_⟩⟩
    have s0 := same_upd q0 (.tup [V.str "InvalidName", V.str "InvalidNumber", V.str "InvalidLimit"])
    generalize (upd H t0 (.tup [V.str "InvalidName", V.str "InvalidNumber", V.str "InvalidLimit"])) = G0 at s0 ⊢
    rw [show inV (V.str "Ring") [V.str "InvalidName", V.str "InvalidNumber", V.str "InvalidLimit"] = false by decide +kernel]
    refine iteF ?_
    refine ⟨_, rfl, (by show 7 ≤ sizeLine; decide), fun t1 q1 => ⟨t1, _, rfl, .inr (SqT.of upd_same), rfl, rfl, _, rfl, ?_⟩⟩
    have s1 := s0.trans (same_upd q1 (.tup [V.str "InvalidPart", V.str "InvalidOuts", V.str "InvalidUse", V.str "InvalidSheet", V.str "InvalidFact", V.str "InvalidDeed", V.str "InvalidCommand"]))
    generalize (upd G0 t1 (.tup [V.str "InvalidPart", V.str "InvalidOuts", V.str "InvalidUse", V.str "InvalidSheet", V.str "InvalidFact", V.str "InvalidDeed", V.str "InvalidCommand"])) = G1 at s1 ⊢
    rw [show inV (V.str "Ring") [V.str "InvalidPart", V.str "InvalidOuts", V.str "InvalidUse", V.str "InvalidSheet", V.str "InvalidFact", V.str "InvalidDeed", V.str "InvalidCommand"] = false by decide +kernel]
    refine iteF ?_
    refine ⟨_, rfl, (by show 2 ≤ sizeLine; decide), fun t2 q2 => ⟨t2, _, rfl, .inr (SqT.of upd_same), rfl, rfl, _, rfl, ?_⟩⟩
    have s2 := s1.trans (same_upd q2 (.tup [V.str "InvalidText", V.str "InvalidPage"]))
    generalize (upd G1 t2 (.tup [V.str "InvalidText", V.str "InvalidPage"])) = G2 at s2 ⊢
    rw [show inV (V.str "Ring") [V.str "InvalidText", V.str "InvalidPage"] = false by decide +kernel]
    refine iteF ?_
    refine ⟨_, rfl, (by show 3 ≤ sizeLine; decide), fun t3 q3 => ⟨t3, _, rfl, .inr (SqT.of upd_same), rfl, rfl, _, rfl, ?_⟩⟩
    have s3 := s2.trans (same_upd q3 (.tup [V.str "DuplicateName", V.str "UnlikeKinds", V.str "UnknownName"]))
    generalize (upd G2 t3 (.tup [V.str "DuplicateName", V.str "UnlikeKinds", V.str "UnknownName"])) = G3 at s3 ⊢
    rw [show inV (V.str "Ring") [V.str "DuplicateName", V.str "UnlikeKinds", V.str "UnknownName"] = false by decide +kernel]
    refine iteF ?_
    refine ⟨_, rfl, (by show 2 ≤ sizeLine; decide), fun t4 q4 => ⟨t4, _, rfl, .inr (SqT.of upd_same), rfl, rfl, _, rfl, ?_⟩⟩
    have s4 := s3.trans (same_upd q4 (.tup [V.str "Circular", V.str "UnknownPiece"]))
    generalize (upd G3 t4 (.tup [V.str "Circular", V.str "UnknownPiece"])) = G4 at s4 ⊢
    rw [show inV (V.str "Ring") [V.str "Circular", V.str "UnknownPiece"] = false by decide +kernel]
    refine iteF ?_
    refine ⟨_, rfl, (by show 2 ≤ sizeLine; decide), fun t5 q5 => ⟨t5, _, rfl, .inr (SqT.of upd_same), rfl, rfl, _, rfl, ?_⟩⟩
    have s5 := s4.trans (same_upd q5 (.tup [V.str "InUse", V.str "TooMany"]))
    generalize (upd G4 t5 (.tup [V.str "InUse", V.str "TooMany"])) = G5 at s5 ⊢
    rw [show inV (V.str "Ring") [V.str "InUse", V.str "TooMany"] = false by decide +kernel]
    refine iteF ?_
    refine ⟨_, rfl, (by show 2 ≤ sizeLine; decide), fun t6 q6 => ⟨t6, _, rfl, .inr (SqT.of upd_same), rfl, rfl, _, rfl, ?_⟩⟩
    have s6 := s5.trans (same_upd q6 (.tup [V.str "TooEarly", V.str "InvalidTable"]))
    generalize (upd G5 t6 (.tup [V.str "TooEarly", V.str "InvalidTable"])) = G6 at s6 ⊢
    rw [show inV (V.str "Ring") [V.str "TooEarly", V.str "InvalidTable"] = false by decide +kernel]
    refine iteF ?_
    refine ⟨_, rfl, (by show 2 ≤ sizeLine; decide), fun t7 q7 => ⟨t7, _, rfl, .inr (SqT.of upd_same), rfl, rfl, _, rfl, ?_⟩⟩
    have s7 := s6.trans (same_upd q7 (.tup [V.str "Full", V.str "Ring"]))
    generalize (upd G6 t7 (.tup [V.str "Full", V.str "Ring"])) = G7 at s7 ⊢
    rw [show inV (V.str "Ring") [V.str "Full", V.str "Ring"] = true by decide +kernel]
    refine iteT ?_
    exact ⟨_, rfl, rfl, _, rfl, iteF ⟨_, rfl, C, dd, fs, _, rfl, hcl, hxf, hat _ (by decide), hd, s7 _ _ hdd, hx, (by show 1 ≤ sizeLine; decide), fun t ht => fin s7 ht rfl⟩⟩
end
end Un
namespace Un
open PySem L2 TL
section
variable {P : Program} {w : World} {K : PySem.W.Frag} {mg : Str → Option Value} {base : Heap}
abbrev whyN : List Str := ["_law_ask", "_law_e"]
theorem scWhy : FnScope whyN ["_law_ask"] (defScope sWhy) := ⟨rfl, rfl, rfl, by decide +kernel, rfl, by decide +kernel, by decide +kernel⟩
/-- what an error must be for `_law_why` to tell it -/
def EWhy (K : PySem.W.Frag) (cs : List Value) (Q : VK) : XK := fun cls d H' => ∃ code due, ErrAt K H' cls d code due ∧ PySem.W.exmAny K cls cs = some true ∧
  ∀ (t t1 : Addr) (H'' : Hp), Same H' H'' → H' t = none → H'' t1 = some (.tup due) → H'' t = some (.tup [.str code, .ref t1]) → Q (.ref t) H''
def TWhy (K : PySem.W.Frag) (cs : List Value) : (XK → Hp → VK → Prop) → Hp → VK → Prop := fun tl H Q => tl (EWhy K cs Q) H fun v H1 => ([.str "", v] : List V).length ≤ sizeLine ∧ ∀ t, H1 t = none → Q (.ref t) (upd H1 t (.tup [.str "", v]))
theorem why_gives {X : Cx} {g ff U M NL : Addr} {cdg : Value} {q : Str} {k : Nat} {fd : FuncData} (hr : Room (k + 1) X.A) (GF : ExR.FnE X.prog X.w X.K X.mg X.base CX0 k ff fd ["_law_e"] (spFieldE X.K)) (bF : Binds X.K fd ["_law_e"] []) (kF : PySem.W.keepIn X.K (.ref ff) = true) (mF : X.mg "_law_field" = some (.ref ff))
    (mU : X.mg "UnopenedError" = some (.ref U)) (mM : X.mg "Missing" = some (.ref M)) (mN : X.mg "NothingLeft" = some (.ref NL)) :
    LamX.GivesTo X whyN "_law_why" (defScope sWhy) g cdg (defBody sWhy) "_law_ask" q (TWhy X.K [.ref U, .ref M, .ref NL]) := by
  intro f c' s H Q tl act hc h
  let Y : Cx := (cxOf C8.CX0 X.prog X.w X.K X.mg X.base whyN "_law_why" (defScope sWhy) g cdg X.A X.stack s H C8.E0).nox
  have hrY : L2H.RoomH k Y.A := L2H.roomH_of (hr.deeper _)
  refine ⟨_, pss_one (ExR.ps_try_as3 (X := Y) (i := 1) (c1 := .ref U) (c2 := .ref M) (c3 := .ref NL)
      (tb := fun W D σ H => ∃ Ech : XK, (∀ cls d σ' H', Ech cls d H' → σ'.length = 2 → W cls d σ' H') ∧ tRet (tTup (tCons (tC (.str "")) (tCons (fun σZ HZ Q => σZ[0]? = some (some (.ref f)) ∧ HZ c' = some (LamX.CodeO c' q) ∧ tl Ech HZ Q) tNil))) D σ H)
      (ts := fun a cls d => tRet (tTup (tCons (ExR.tXe X.K a cls d "code" (tVar 1)) (tCons (fun σ H Q => tCons (tVar 1) tNil σ H fun vs H1 => spFieldE X.K a cls d vs H1 Q E0) tNil))))
      rfl rfl scWhy.nd rfl rfl ⟨by rfl, by decide, .inl mU⟩ ⟨by rfl, by decide, .inl mM⟩ ⟨by rfl, by decide, .inl mN⟩ LamX.takes0 (fun W pn xe tk _ => ?_) (fun a oe cls d pn hz hf => ?_)), ?_⟩
  · refine ⟨fun pins s' σ H' D I h' => ?_⟩
    obtain ⟨Ech, hW, h1⟩ := h'
    have tk' : Takes (Y.tr pn xe) (fun cls d σ H => σ.length = 2 → W cls d σ H) := fun u s' ⟨a, B, sI, pins, σ, H, cls, d, e, I, nb, up, sky, na, os, ag, w⟩ => tk u s' ⟨a, B, sI, pins, σ, H, cls, d, e, I, nb, up, sky, na, os, ag, w I.len⟩
    exact (pss_one (ps_ret (pe_tup (pa_cons pe_str (pa_cons (act (fun cls d σ H => σ.length = 2 → W cls d σ H) pn xe Ech _ _ tk' hW) pa_nil))))).run pins s' σ H' D I h1
  · have B : ExR.Bears (Y.suite a ((a, oe) :: pn)) (a, oe) cls d := ⟨List.mem_cons_self, hz, hf⟩
    exact pss_one (ps_ret (pe_tup (pa_cons (ExR.pe_xe B (pv 1)) (pa_cons (ExR.pe_callE (X := Y.suite a ((a, oe) :: pn)) GF (by exact ⟨hrY.dp, hrY.un⟩) B (by rfl) mF kF bF pass0 (pa_cons (pv 1) pa_nil)) pa_nil))))
  · refine ⟨EWhy X.K [.ref U, .ref M, .ref NL] Q, fun cls d σ' H' he hl => ?_, rfl, hc, h⟩
    obtain ⟨code, due, er, hx, qq⟩ := he
    refine ⟨true, hx, fun _ a ha => ?_, fun z => nomatch z⟩
    obtain ⟨s0, s1, rfl⟩ : ∃ s0 s1, σ' = [s0, s1] := by
      match σ', hl with
      | [s0, s1], _ => exact ⟨s0, s1, rfl⟩
    obtain ⟨C, dd, fs, hcl, hxf, hat, hd, hdd, hcode, hdue⟩ := er.ex
    refine ⟨_, rfl, C, dd, fs, _, rfl, hcl, hxf, hat _ (by decide), hd, hdd, hcode, _, rfl, code, due, rfl, er, fun t1 H1 s1' h0 h1 => ⟨(by show 2 ≤ sizeLine; decide), fun t ht => ?_⟩⟩
    have nt : t1 ≠ t := ne_of_none h1 ht
    exact qq t t1 _ (s1'.trans (same_upd ht _)) (s1'.free ht) (by rw [upd_ne nt]; exact h1) upd_same
end
end Un
namespace Un
open PySem L2 TL
section
variable {P : Program} {w : World} {K : PySem.W.Frag} {mg : Str → Option Value} {base : Heap}
/-! ### whatever is asked for a part -/
def NmR (K : PySem.W.Frag) (H : Hp) (v : V) (b : Bool) : Prop := (∃ z : Str, v = .str z ∧ z.length ≤ 1000 ∧ b = nameB z) ∨ (∃ t : String, TyX K H v (.type t) ∧ kitB t "str" = some false ∧ b = false)
def NumR (K : PySem.W.Frag) (H : Hp) (v : V) (lo hi : Int) (b : Bool) : Prop := (∃ i, v = .int i ∧ b = (decide (lo ≤ i) && decide (i ≤ hi))) ∨ (∃ (t : String) (bi bb : Bool), TyX K H v (.type t) ∧ kitB t "int" = some bi ∧ kitB t "bool" = some bb ∧ (bi && !bb) = false ∧ b = false)
def NotTup (K : PySem.W.Frag) (H : Hp) (v : V) : Prop := ∃ t : String, TyX K H v (.type t) ∧ kitB t "tuple" = some false
/-- types stay -/
def Tys (K : PySem.W.Frag) (H H' : Hp) : Prop := ∀ x t, TyX K H x t → TyX K H' x t
theorem Same.tys {K : PySem.W.Frag} {H H' : Hp} (s : Same H H') : Tys K H H' := fun x t h => by
  cases h with
  | byt b => exact .byt b
  | set e => exact .set (s _ _ e)
  | kList e c => exact .kList e c
  | kTuple e c => exact .kTuple e c
  | kDict e c => exact .kDict e c
  | fTuple e => exact .fTuple (s _ _ e)
  | fDict e => exact .fDict (s _ _ e)
  | base h =>
    refine .base ?_
    cases h with
    | non => exact .non
    | bl x => exact .bl x
    | int i => exact .int i
    | str x => exact .str x
    | flt x => exact .flt x
    | lst e => exact .lst (s _ _ e)
    | frz e => exact .frz (s _ _ e)
    | tup e => exact .tup (s _ _ e)
    | dK e => exact .dK (s _ _ e)
    | dT e => exact .dT (s _ _ e)
    | ins e a b c d f => exact .ins (s _ _ e) a b c d f
theorem NmR.to {H H' : Hp} {v : V} {b : Bool} (h : NmR K H v b) (s : Tys K H H') : NmR K H' v b := by
  rcases h with h | ⟨t, h1, h2⟩
  · exact .inl h
  · exact .inr ⟨t, s _ _ h1, h2⟩
theorem NumR.to {H H' : Hp} {v : V} {lo hi : Int} {b : Bool} (h : NumR K H v lo hi b) (s : Tys K H H') : NumR K H' v lo hi b := by
  rcases h with h | ⟨t, bi, bb, h1, h2⟩
  · exact .inl h
  · exact .inr ⟨t, bi, bb, s _ _ h1, h2⟩
theorem NotTup.to {H H' : Hp} {v : V} (h : NotTup K H v) (s : Tys K H H') : NotTup K H' v := by
  obtain ⟨t, h1, h2⟩ := h
  exact ⟨t, s _ _ h1, h2⟩
inductive TermR (K : PySem.W.Frag) (H : Hp) : V → Bool → Prop where
  | no {v : V} : NotTup K H v → TermR K H v false
  | len {a : Addr} {xs : List V} : H a = some (.tup xs) → xs.length ≠ 3 → TermR K H (.ref a) false
  | of {a : Addr} {f d w : V} {b1 b2 b3 : Bool} : H a = some (.tup [f, d, w]) → NumR K H f (-99) 99 b1 → NumR K H d 0 4 b2 → NmR K H w b3 → TermR K H (.ref a) (b1 && (b2 && b3))
theorem TermR.to {H H' : Hp} {v : V} {b : Bool} (h : TermR K H v b) (s : Tys K H H') (t : Tups H H') : TermR K H' v b := by
  cases h with
  | no h => exact .no (h.to s)
  | len h n => exact .len (t _ _ h) n
  | of h h1 h2 h3 => exact .of (t _ _ h) (h1.to s) (h2.to s) (h3.to s)
inductive TermsR (K : PySem.W.Frag) (H : Hp) : V → Bool → Prop where
  | no {v : V} : NotTup K H v → TermsR K H v false
  | long {a : Addr} {xs : List V} : H a = some (.tup xs) → 6 < xs.length → TermsR K H (.ref a) false
  | of {a : Addr} {xs : List V} {bs : List Bool} : H a = some (.tup xs) → xs.length ≤ 6 → All2 (TermR K H) xs bs → TermsR K H (.ref a) (bs.all id)
theorem TermsR.to {H H' : Hp} {v : V} {b : Bool} (h : TermsR K H v b) (s : Tys K H H') (t : Tups H H') : TermsR K H' v b := by
  cases h with
  | no h => exact .no (h.to s)
  | long h n => exact .long (t _ _ h) n
  | of h l h1 => exact .of (t _ _ h) l (h1.mono fun _ _ z => z.to s t)
inductive EndsR (K : PySem.W.Frag) (H : Hp) : V → Bool → Prop where
  | no {v : V} : NotTup K H v → EndsR K H v false
  | long {a : Addr} {xs : List V} : H a = some (.tup xs) → 4 < xs.length → EndsR K H (.ref a) false
  | of {a : Addr} {xs : List V} {bs : List Bool} : H a = some (.tup xs) → xs.length ≤ 4 → All2 (NmR K H) xs bs → EndsR K H (.ref a) (bs.all id)
theorem EndsR.to {H H' : Hp} {v : V} {b : Bool} (h : EndsR K H v b) (s : Tys K H H') (t : Tups H H') : EndsR K H' v b := by
  cases h with
  | no h => exact .no (h.to s)
  | long h n => exact .long (t _ _ h) n
  | of h l h1 => exact .of (t _ _ h) l (h1.mono fun _ _ z => z.to s)
/-- what is_term, is_name, .. answer of a value -/
def spAsk (R : Hp → V → Bool → Prop) : Sp := fun vs H Q _ => ∃ (x : V) (b : Bool), vs = [x] ∧ R H x b ∧ ∀ H', Same H H' → Q (.bl b) H'
/-- what is_name and is_number are asked, closed -/
structure AskM (K : PySem.W.Frag) (vs : List V) (H : Hp) (Q : VK) (E : XK) : Prop where
  h : spName K vs H Q E
structure AskN (K : PySem.W.Frag) (vs : List V) (H : Hp) (Q : VK) (E : XK) : Prop where
  h : spNumber K vs H Q E
theorem Df.to {k : Nat} {f : Addr} {fd : FuncData} {x : Str} {ps : List Str} {sp sp' : Sp} (G : Df P w K mg base k f fd x ps sp) (h : ∀ vs H Q E, sp' vs H Q E → sp vs H Q E) : Df P w K mg base k f fd x ps sp' :=
  ⟨⟨fun vs H Q E z => G.ok.len vs H Q E (h _ _ _ _ z), fun A outer s H args us vs Q E r e b v z => G.ok.run A outer s H args us vs Q E r e b v (h _ _ _ _ z)⟩, G.b, G.kp, G.m⟩
theorem ask_name {H : Hp} {x : V} {b : Bool} {Q : VK} {E : XK} (h : NmR K H x b) (q : ∀ H', Same H H' → Q (.bl b) H') : AskM K [x] H Q E := by
  rcases h with ⟨z, e, l, e2⟩ | ⟨t, h1, h2, e2⟩
  · exact ⟨⟨x, rfl, .inl ⟨z, e, l, fun H' s => by rw [← e2]; exact q H' s⟩⟩⟩
  · exact ⟨⟨x, rfl, .inr ⟨t, h1, h2, fun H' s => by rw [← e2]; exact q H' s⟩⟩⟩
theorem ask_num {H : Hp} {x : V} {lo hi : Int} {b : Bool} {Q : VK} {E : XK} (h : NumR K H x lo hi b) (q : Q (.bl b) H) : AskN K [x, .int lo, .int hi] H Q E := by
  rcases h with ⟨i, e, e2⟩ | ⟨t, bi, bb, h1, h2, h3, h4, e2⟩
  · exact ⟨⟨x, lo, hi, rfl, .inl ⟨i, e, by rw [← e2]; exact q⟩⟩⟩
  · exact ⟨⟨x, lo, hi, rfl, .inr ⟨t, bi, bb, h1, h2, h3, h4, by rw [← e2]; exact q⟩⟩⟩
theorem ok_isTermA {f fn fm : Addr} {fd dn dm : FuncData} (F : Fun K "is_term" "is_term" sIsTerm f fd) (T : PartTxt K w mg) (GN : Df P w K mg base 2 fn dn "is_number" ["value", "least", "most"] (AskN K)) (GM : Df P w K mg base 1 fm dm "is_name" ["value"] (AskM K)) : FnOk P w K mg base CX0 3 f fd ["value"] (spAsk (TermR K)) := by
  refine F.ok scIsTerm (fun vs H Q E h => ?_) (fun cdv A outer s H vs Q E hr h => ?_)
  · obtain ⟨x, t, rfl, _⟩ := h
    rfl
  obtain ⟨x, bz, rfl, tr, q⟩ := h
  obtain ⟨tf, mfac⟩ := T.fac
  obtain ⟨td, mdel⟩ := T.del
  refine ⟨_, (pss_cons (ps_if (PW.pt (pw_or (pt_not (pt_val (pe_callB call_isi (by rfl) T.isi (by decide +kernel) (pa_cons (pv 0) (pa_cons (pe_bltn (v := .ty "tuple") (by rfl) T.tuple (by decide +kernel) rfl) pa_nil))))) (pw_or1 (pt_cmpR op_ne (pe_callB call_len_seq (by rfl) T.len PySem.boot_len (pa_cons (pv 0) pa_nil)) pe_int (nomark _)))))
 (pss_one (ps_ret pe_bl))
 pss_nil)
 (pss_cons (ps_asg (pv 0) (pg_tup (by rfl) (pgs_cons (pg_name (i := 1) scIsTerm.nd rfl (by first | exact Or.inl rfl | exact Or.inr rfl)) (pgs_cons (pg_name (i := 2) scIsTerm.nd rfl (by first | exact Or.inl rfl | exact Or.inr rfl)) (pgs_cons (pg_name (i := 3) scIsTerm.nd rfl (by first | exact Or.inl rfl | exact Or.inr rfl)) pgs_nil)))))
 (pss_one (ps_ret (pe_and (pe_call GN.ok (hr.mono (by decide)) (by rfl) GN.m GN.kp GN.b .nil pass0 (pa_cons (pv 1) (pa_cons (pe_un un_neg (pe_glob (v := .int 99) (by rfl) mfac ⟨_, rfl⟩)) (pa_cons (pe_glob (v := .int 99) (by rfl) mfac ⟨_, rfl⟩) pa_nil)))) (pe_and (pe_call GN.ok (hr.mono (by decide)) (by rfl) GN.m GN.kp GN.b .nil pass0 (pa_cons (pv 2) (pa_cons pe_int (pa_cons (pe_glob (v := .int 4) (by rfl) mdel ⟨_, rfl⟩) pa_nil)))) (pe_one (pe_call GM.ok (hr.mono (by decide)) (by rfl) GM.m GM.kp GM.b .nil pass0 (pa_cons (pv 3) pa_nil))))))))), ?_⟩
  cases tr with
  | no nt =>
    obtain ⟨t, ty, kt⟩ := nt
    exact ⟨_, rfl, _, _, _, _, false, rfl, .ty _, ty, kit_ty kt, _, rfl, iteT (iteT (q _ (Same.refl _)))⟩
  | @len a xs ha hl =>
    refine ⟨_, rfl, _, _, _, _, true, rfl, .ty _, (.base (.tup ha)), kit_ty (by decide +kernel), _, rfl, iteF ?_⟩
    refine ⟨_, rfl, a, _, rfl, .inr (SqT.of ha), rfl, _, rfl, ?_⟩
    rw [show (!decide (V.int (xs.length : Nat) = V.int 3)) = true by rw [decide_eq_false fun e => hl (by have := V.int.inj e; omega)]; rfl]
    exact iteT (q _ (Same.refl _))
  | @of a f d w b1 b2 b3 ha h1 h2 h3 =>
    refine ⟨_, rfl, _, _, _, _, true, rfl, .ty _, (.base (.tup ha)), kit_ty (by decide +kernel), _, rfl, iteF ?_⟩
    refine ⟨_, rfl, a, _, rfl, .inr (SqT.of ha), rfl, _, rfl, iteF ?_⟩
    refine ⟨_, rfl, a, _, rfl, SqT.of ha, rfl, _, _, rfl, _, _, rfl, _, _, rfl, rfl, ?_⟩
    refine ⟨_, rfl, 99, rfl, ask_num h1 ?_⟩
    cases b1 with
    | false => exact ⟨_, rfl, iteF (q _ (Same.refl _))⟩
    | true =>
      refine ⟨_, rfl, iteT ?_⟩
      refine ⟨_, rfl, ask_num h2 ?_⟩
      cases b2 with
      | false => exact ⟨_, rfl, iteF (q _ (Same.refl _))⟩
      | true =>
        refine ⟨_, rfl, iteT ?_⟩
        exact ⟨_, rfl, ask_name h3 fun H1 s1 => q _ s1⟩
theorem ok_areTermsA {f ft : Addr} {fd dt : FuncData} (F : Fun K "are_terms" "are_terms" sAreTerms f fd) (T : PartTxt K w mg) (GT : Df P w K mg base 3 ft dt "is_term" ["value"] (spAsk (TermR K))) : FnOk P w K mg base CX0 4 f fd ["value"] (spAsk (TermsR K)) := by
  refine F.ok scAreTerms (fun vs H Q E h => ?_) (fun cdv A outer s H vs Q E hr h => ?_)
  · obtain ⟨x, t, rfl, _⟩ := h
    rfl
  obtain ⟨x, bz, rfl, tr, q⟩ := h
  obtain ⟨tm, mterms⟩ := T.terms
  refine ⟨_, (pss_one (ps_ret (pe_and (pe_callB call_isi (by rfl) T.isi (by decide +kernel) (pa_cons (pv 0) (pa_cons (pe_bltn (v := .ty "tuple") (by rfl) T.tuple (by decide +kernel) rfl) pa_nil))) (pe_and (pe_cmpR op_le (pe_callB call_len_seq (by rfl) T.len PySem.boot_len (pa_cons (pv 0) pa_nil)) (pe_glob (v := .int 6) (by rfl) mterms ⟨_, rfl⟩) (nomark _)) (pe_one (pe_callB (cr_all rfl) (by rfl) T.all (by decide +kernel) (pa_cons (pe_lc (own := [("item", 1)]) (g := (gName 1)) rfl scAreTerms.nd (pi_tup (pv 0)) (blkOk_by (own := [("item", 1)]) (N := ["value", "item"]) (sc := defScope sAreTerms) (by decide +kernel)) (fun _ _ _ _ _ => (pg_name (i := 1) scAreTerms.nd rfl (Or.inl rfl) (Or.inr rfl))) (fun _ _ _ _ _ => pts_nil) (fun _ _ _ _ _ => (pe_call GT.ok (hr.mono (by decide)) (by rfl) GT.m GT.kp GT.b .nil pass0 (pa_cons (pv 1) pa_nil)))) pa_nil))))))), ?_⟩
  cases tr with
  | no nt =>
    obtain ⟨t, ty, kt⟩ := nt
    exact ⟨_, rfl, _, _, _, _, false, rfl, .ty _, ty, kit_ty kt, _, rfl, iteF (q _ (Same.refl _))⟩
  | @long a xs ha hl =>
    refine ⟨_, rfl, _, _, _, _, true, rfl, .ty _, (.base (.tup ha)), kit_ty (by decide +kernel), _, rfl, iteT ?_⟩
    refine ⟨_, rfl, a, _, rfl, .inr (SqT.of ha), _, _, rfl, rfl, _, rfl, ?_⟩
    rw [show decide (((xs.length : Nat) : Int) ≤ 6) = false from decide_eq_false (by omega)]
    exact iteF (q _ (Same.refl _))
  | @of a us bs hb hl hA =>
    refine ⟨_, rfl, _, _, _, _, true, rfl, .ty _, (.base (.tup hb)), kit_ty (by decide +kernel), _, rfl, iteT ?_⟩
    refine ⟨_, rfl, a, _, rfl, .inr (SqT.of hb), _, _, rfl, rfl, _, rfl, ?_⟩
    rw [show decide (((us.length : Nat) : Int) ≤ 6) = true from decide_eq_true (by omega)]
    refine iteT ?_
    refine ⟨_, rfl, a, rfl, ⟨_, SqT.of hb⟩, fun D hD => ?_⟩
    have s1 := same_upd hD (.lst [])
    refine lc_tup (xs := us) (fun i H2 => Same H H2 ∧ H2 D = some (.lst ((bs.take i).map V.bl))) ⟨s1, upd_same⟩ (fun i H2 _ h => SqT.of (h.1 _ _ hb)) (fun i x H2 hx ⟨s2, hD2⟩ => ?_) (fun H2 ⟨s2, hD2⟩ => ?_)
    · have hi : i < us.length := (List.getElem?_eq_some_iff.mp hx).1
      obtain ⟨t, ht⟩ : ∃ t, bs[i]? = some t := ⟨bs[i]'(by rw [← hA.1]; exact hi), List.getElem?_eq_getElem _⟩
      refine ⟨rfl, _, rfl, x, t, rfl, (hA.2 i x t hx ht).to (Same.tys s2) (Same.tups s2), fun H3 s3 => ?_⟩
      refine ⟨_, s3 _ _ hD2, ?_, fun c o hc => ?_, ?_⟩
      · rw [List.length_map, List.length_take]
        exact small1000 (by omega)
      · rw [upd_ne (ne_of_none hc hD)]
        exact s3 _ _ (s2 _ _ hc)
      · rw [upd_same, List.take_add_one, ht, List.map_append]
        rfl
    · rw [show bs.take us.length = bs by rw [hA.1]; exact List.take_length] at hD2
      refine ⟨D, bs, rfl, SqL.of hD2, ?_⟩
      exact q H2 s2
theorem scAreEnds : FnScope ["value", "item"] ["value"] (defScope sAreEnds) := ⟨rfl, rfl, rfl, by decide +kernel, rfl, by decide +kernel, by decide +kernel⟩
theorem ok_areEndsA {f fm : Addr} {fd dm : FuncData} (F : Fun K "are_ends" "are_ends" sAreEnds f fd) (T : PartTxt K w mg) (mends4 : ∃ t, mg "MOST_ENDS" = some (.int 4 t)) (GM : Df P w K mg base 1 fm dm "is_name" ["value"] (AskM K)) : FnOk P w K mg base CX0 4 f fd ["value"] (spAsk (EndsR K)) := by
  refine F.ok scAreEnds (fun vs H Q E h => ?_) (fun cdv A outer s H vs Q E hr h => ?_)
  · obtain ⟨x, t, rfl, _⟩ := h
    rfl
  obtain ⟨x, bz, rfl, tr, q⟩ := h
  obtain ⟨tm, mends4⟩ := mends4
  refine ⟨_, (pss_one (ps_ret (pe_and (pe_callB call_isi (by rfl) T.isi (by decide +kernel) (pa_cons (pv 0) (pa_cons (pe_bltn (v := .ty "tuple") (by rfl) T.tuple (by decide +kernel) rfl) pa_nil))) (pe_and (pe_cmpR op_le (pe_callB call_len_seq (by rfl) T.len PySem.boot_len (pa_cons (pv 0) pa_nil)) (pe_glob (v := .int 4) (by rfl) mends4 ⟨_, rfl⟩) (nomark _)) (pe_one (pe_callB (cr_all rfl) (by rfl) T.all (by decide +kernel) (pa_cons (pe_lc (own := [("item", 1)]) (g := (gName 1)) rfl scAreEnds.nd (pi_tup (pv 0)) (blkOk_by (own := [("item", 1)]) (N := ["value", "item"]) (sc := defScope sAreEnds) (by decide +kernel)) (fun _ _ _ _ _ => (pg_name (i := 1) scAreEnds.nd rfl (Or.inl rfl) (Or.inr rfl))) (fun _ _ _ _ _ => pts_nil) (fun _ _ _ _ _ => (pe_call GM.ok (hr.mono (by decide)) (by rfl) GM.m GM.kp GM.b .nil pass0 (pa_cons (pv 1) pa_nil)))) pa_nil))))))), ?_⟩
  cases tr with
  | no nt =>
    obtain ⟨t, ty, kt⟩ := nt
    exact ⟨_, rfl, _, _, _, _, false, rfl, .ty _, ty, kit_ty kt, _, rfl, iteF (q _ (Same.refl _))⟩
  | @long a xs ha hl =>
    refine ⟨_, rfl, _, _, _, _, true, rfl, .ty _, (.base (.tup ha)), kit_ty (by decide +kernel), _, rfl, iteT ?_⟩
    refine ⟨_, rfl, a, _, rfl, .inr (SqT.of ha), _, _, rfl, rfl, _, rfl, ?_⟩
    rw [show decide (((xs.length : Nat) : Int) ≤ 4) = false from decide_eq_false (by omega)]
    exact iteF (q _ (Same.refl _))
  | @of a us bs hb hl hA =>
    refine ⟨_, rfl, _, _, _, _, true, rfl, .ty _, (.base (.tup hb)), kit_ty (by decide +kernel), _, rfl, iteT ?_⟩
    refine ⟨_, rfl, a, _, rfl, .inr (SqT.of hb), _, _, rfl, rfl, _, rfl, ?_⟩
    rw [show decide (((us.length : Nat) : Int) ≤ 4) = true from decide_eq_true (by omega)]
    refine iteT ?_
    refine ⟨_, rfl, a, rfl, ⟨_, SqT.of hb⟩, fun D hD => ?_⟩
    have s1 := same_upd hD (.lst [])
    refine lc_tup (xs := us) (fun i H2 => Same H H2 ∧ H2 D = some (.lst ((bs.take i).map V.bl))) ⟨s1, upd_same⟩ (fun i H2 _ h => SqT.of (h.1 _ _ hb)) (fun i x H2 hx ⟨s2, hD2⟩ => ?_) (fun H2 ⟨s2, hD2⟩ => ?_)
    · have hi : i < us.length := (List.getElem?_eq_some_iff.mp hx).1
      obtain ⟨t, ht⟩ : ∃ t, bs[i]? = some t := ⟨bs[i]'(by rw [← hA.1]; exact hi), List.getElem?_eq_getElem _⟩
      refine ⟨rfl, _, rfl, ask_name ((hA.2 i x t hx ht).to (Same.tys s2)) fun H3 s3 => ?_⟩
      refine ⟨_, s3 _ _ hD2, ?_, fun c o hc => ?_, ?_⟩
      · rw [List.length_map, List.length_take]
        exact small1000 (by omega)
      · rw [upd_ne (ne_of_none hc hD)]
        exact s3 _ _ (s2 _ _ hc)
      · rw [upd_same, List.take_add_one, ht, List.map_append]
        rfl
    · rw [show bs.take us.length = bs by rw [hA.1]; exact List.take_length] at hD2
      refine ⟨D, bs, rfl, SqL.of hD2, ?_⟩
      exact q H2 s2
/-- what may stand for the kind of a part that is none of source, mix, use -/
inductive KindR : V → Bool → Prop where
  | box {z : Str} : z ∈ kinds4 → KindR (.str z) true
  | odd {z : Str} : z = "box" ∨ z = "Source" → KindR (.str z) false
  | int {i : Int} : KindR (.int i) false
  | non : KindR .non false
def NoKinds (K : PySem.W.Frag) (mg : Str → Option Value) : Prop := ∀ d, mg "ENDS" = some (.ref d) → ∀ z : Str, z = "box" ∨ z = "Source" → PySem.W.nsIn K d z = some none
theorem ok_isKindA {f : Addr} {fd : FuncData} (F : Fun K "is_kind" "is_kind" sIsKind f fd) (T : PartTxt K w mg) (NK : NoKinds K mg) : FnOk P w K mg base CX0 1 f fd ["value"] (spAsk fun _ => KindR) := by
  refine F.ok scIsKind (fun vs H Q E h => ?_) (fun cdv A outer s H vs Q E hr h => ?_)
  · obtain ⟨x, t, rfl, _⟩ := h
    rfl
  obtain ⟨x, bz, rfl, tr, q⟩ := h
  obtain ⟨d, es, n, mends, D, e4, _⟩ := T.ends
  refine ⟨_, (pss_one (ps_ret (pe_and (pe_callB call_isi (by rfl) T.isi (by decide +kernel) (pa_cons (pv 0) (pa_cons (pe_bltn (v := .ty "str") (by rfl) T.str (by decide +kernel) rfl) pa_nil))) (pe_one (pe_cmpR (op_in_kd D) (pv 0) (pe_glob (v := .ref d) (by rfl) mends rfl) (by rfl)))))), ?_⟩
  cases tr with
  | @box z hz =>
    obtain ⟨t, et⟩ := e4 z hz
    refine ⟨_, rfl, _, _, _, _, true, rfl, .ty _, (.base (.str z)), kit_ty (by decide +kernel), _, rfl, iteT ?_⟩
    exact ⟨_, rfl, z, _, rfl, rfl, et, q _ (Same.refl _)⟩
  | @odd z hz =>
    refine ⟨_, rfl, _, _, _, _, true, rfl, .ty _, (.base (.str z)), kit_ty (by decide +kernel), _, rfl, iteT ?_⟩
    exact ⟨_, rfl, z, _, rfl, rfl, NK d mends z hz, q _ (Same.refl _)⟩
  | int => exact ⟨_, rfl, _, _, _, _, false, rfl, .ty _, (.base (.int _)), kit_ty (by decide +kernel), _, rfl, iteF (q _ (Same.refl _))⟩
  | non => exact ⟨_, rfl, _, _, _, _, false, rfl, .ty _, (.base .non), kit_ty (by decide +kernel), _, rfl, iteF (q _ (Same.refl _))⟩
/-- what stands behind the wire of a part -/
inductive ItemsR (K : PySem.W.Frag) (H : Hp) : V → List V → Bool → Prop where
  | src {xs : List V} : ItemsR K H (.str "source") xs xs.isEmpty
  | mix0 {xs : List V} : xs.length ≠ 1 → ItemsR K H (.str "mix") xs false
  | mix {x : V} {b : Bool} : TermsR K H x b → ItemsR K H (.str "mix") [x] b
  | use0 {xs : List V} : xs.length ≠ 2 → ItemsR K H (.str "use") xs false
  | use {x y : V} {b1 b2 : Bool} : NmR K H x b1 → EndsR K H y b2 → ItemsR K H (.str "use") [x, y] (b1 && b2)
  | box0 {z : Str} {xs : List V} : z ∈ kinds4 → xs.length ≠ (if z = "pair" then 3 else 2) → ItemsR K H (.str z) xs false
  | box {z : Str} {xs : List V} {bs : List Bool} : z ∈ kinds4 → xs.length = (if z = "pair" then 3 else 2) → All2 (NmR K H) xs bs → ItemsR K H (.str z) xs (bs.all id)
  | odd {v : V} {xs : List V} : KindR v false → ItemsR K H v xs false
inductive PartR (K : PySem.W.Frag) (H : Hp) : V → Bool → Prop where
  | no {v : V} : NotTup K H v → PartR K H v false
  | short {a : Addr} {xs : List V} : H a = some (.tup xs) → xs.length < 2 → PartR K H (.ref a) false
  | of {a : Addr} {k n : V} {xs : List V} {b1 b2 : Bool} : H a = some (.tup (k :: n :: xs)) → xs.length ≤ 100 → NmR K H n b1 → ItemsR K H k xs b2 → PartR K H (.ref a) (b1 && b2)
theorem ItemsR.to {H H' : Hp} {v : V} {xs : List V} {b : Bool} (h : ItemsR K H v xs b) (s : Tys K H H') (t : Tups H H') : ItemsR K H' v xs b := by
  cases h with
  | src => exact .src
  | mix0 h => exact .mix0 h
  | mix h => exact .mix (h.to s t)
  | use0 h => exact .use0 h
  | use h1 h2 => exact .use (h1.to s) (h2.to s t)
  | box0 h1 h2 => exact .box0 h1 h2
  | box h1 h2 h3 => exact .box h1 h2 (h3.mono fun _ _ z => z.to s)
  | odd h => exact .odd h
theorem PartR.to {H H' : Hp} {v : V} {b : Bool} (h : PartR K H v b) (s : Tys K H H') (t : Tups H H') : PartR K H' v b := by
  cases h with
  | no h => exact .no (h.to s)
  | short h n => exact .short (t _ _ h) n
  | of h l h1 h2 => exact .of (t _ _ h) l (h1.to s) (h2.to s t)
theorem kinds4_ne {z : Str} (h : z ∈ kinds4) : z ≠ "source" ∧ z ≠ "mix" ∧ z ≠ "use" := by
  simp only [kinds4, List.mem_cons, List.not_mem_nil, or_false] at h
  rcases h with rfl | rfl | rfl | rfl <;> exact ⟨by decide, by decide, by decide⟩
theorem KindR.ne {v : V} {b : Bool} (h : KindR v b) : v ≠ .str "source" ∧ v ≠ .str "mix" ∧ v ≠ .str "use" := by
  cases h with
  | box h => exact ⟨fun e => (kinds4_ne h).1 (V.str.inj e), fun e => (kinds4_ne h).2.1 (V.str.inj e), fun e => (kinds4_ne h).2.2 (V.str.inj e)⟩
  | odd h => rcases h with rfl | rfl <;> exact ⟨fun e => absurd (V.str.inj e) (by decide), fun e => absurd (V.str.inj e) (by decide), fun e => absurd (V.str.inj e) (by decide)⟩
  | int => exact ⟨fun e => (nomatch e), fun e => (nomatch e), fun e => (nomatch e)⟩
  | non => exact ⟨fun e => (nomatch e), fun e => (nomatch e), fun e => (nomatch e)⟩
theorem ok_isPartA {f fm fa fk fe : Addr} {fd dm da dk de : FuncData} (F : Fun K "is_part" "is_part" sIsPart f fd) (T : PartTxt K w mg) (GM : Df P w K mg base 1 fm dm "is_name" ["value"] (AskM K)) (GA : Df P w K mg base 4 fa da "are_terms" ["value"] (spAsk (TermsR K))) (GE : Df P w K mg base 4 fe de "are_ends" ["value"] (spAsk (EndsR K))) (GK : Df P w K mg base 1 fk dk "is_kind" ["value"] (spAsk fun _ => KindR)) :
    FnOk P w K mg base CX0 5 f fd ["value"] (spAsk (PartR K)) := by
  refine F.ok scIsPart (fun vs H Q E h => ?_) (fun cdv A outer s H vs Q E hr h => ?_)
  · obtain ⟨x, p, rfl, _⟩ := h
    rfl
  obtain ⟨x, bz, rfl, tr, q⟩ := h
  obtain ⟨d, es, n, mends, D, e4, _⟩ := T.ends
  refine ⟨_, (pss_cons (ps_if (PW.pt (pw_or (pt_not (pt_val (pe_callB call_isi (by rfl) T.isi (by decide +kernel) (pa_cons (pv 0) (pa_cons (pe_bltn (v := .ty "tuple") (by rfl) T.tuple (by decide +kernel) rfl) pa_nil))))) (pw_or (pt_cmpR op_lt (pe_callB call_len_seq (by rfl) T.len PySem.boot_len (pa_cons (pv 0) pa_nil)) pe_int (nomark _)) (pw_or1 (pt_not (pt_val (pe_call GM.ok (hr.mono (by decide)) (by rfl) GM.m GM.kp GM.b .nil pass0 (pa_cons (pe_ix ix_tup (pv 0) pe_int (fun _ _ => rfl)) pa_nil))))))))
 (pss_one (ps_ret pe_bl))
 pss_nil)
 (pss_cons (ps_asg (pv 0) (pg_star (n := 2) rfl (pgs_cons (pg_name (i := 1) scIsPart.nd rfl (by first | exact Or.inl rfl | exact Or.inr rfl)) (pgs_cons (pg_name (i := 2) scIsPart.nd rfl (by first | exact Or.inl rfl | exact Or.inr rfl)) (pgs_star (pg_name (i := 3) scIsPart.nd rfl (by first | exact Or.inl rfl | exact Or.inr rfl)))))))
 (pss_cons (ps_if (pt_cmpR op_eq (pv 1) pe_str (nomark _))
 (pss_one (ps_ret (pe_notT (pv 3))))
 pss_nil)
 (pss_cons (ps_if (pt_cmpR op_eq (pv 1) pe_str (nomark _))
 (pss_one (ps_ret (pe_and (pe_cmpR op_eq (pe_callB call_len_seq (by rfl) T.len PySem.boot_len (pa_cons (pv 3) pa_nil)) pe_int (nomark _)) (pe_one (pe_call GA.ok (hr.mono (by decide)) (by rfl) GA.m GA.kp GA.b .nil pass0 (pa_cons (pe_ix ix_list (pv 3) pe_int (fun _ _ => rfl)) pa_nil))))))
 pss_nil)
 (pss_cons (ps_if (pt_cmpR op_eq (pv 1) pe_str (nomark _))
 (pss_one (ps_ret (pe_and (pe_cmpR op_eq (pe_callB call_len_seq (by rfl) T.len PySem.boot_len (pa_cons (pv 3) pa_nil)) pe_int (nomark _)) (pe_and (pe_call GM.ok (hr.mono (by decide)) (by rfl) GM.m GM.kp GM.b .nil pass0 (pa_cons (pe_ix ix_list (pv 3) pe_int (fun _ _ => rfl)) pa_nil)) (pe_one (pe_call GE.ok (hr.mono (by decide)) (by rfl) GE.m GE.kp GE.b .nil pass0 (pa_cons (pe_ix ix_list (pv 3) pe_int (fun _ _ => rfl)) pa_nil)))))))
 pss_nil)
 (pss_one (ps_ret (pe_and (pe_call GK.ok (hr.mono (by decide)) (by rfl) GK.m GK.kp GK.b .nil pass0 (pa_cons (pv 1) pa_nil)) (pe_and (pe_cmpR op_eq (pe_callB call_len_seq (by rfl) T.len PySem.boot_len (pa_cons (pv 3) pa_nil)) (pe_op op_add pe_int (pe_ix ix_kdict (pe_glob (v := .ref d) (by rfl) mends rfl) (pv 1) (fun _ _ => rfl))) (nomark _)) (pe_one (pe_callB (cr_all rfl) (by rfl) T.all (by decide +kernel) (pa_cons (pe_lc (own := [("item", 4)]) (g := (gName 4)) rfl scIsPart.nd (pi_list (pv 3)) (blkOk_by (own := [("item", 4)]) (N := ["value", "kind", "_", "items", "item"]) (sc := defScope sIsPart) (by decide +kernel)) (fun _ _ _ _ _ => (pg_name (i := 4) scIsPart.nd rfl (Or.inl rfl) (Or.inr rfl))) (fun _ _ _ _ _ => pts_nil) (fun _ _ _ _ _ => (pe_call GM.ok (hr.mono (by decide)) (by rfl) GM.m GM.kp GM.b .nil pass0 (pa_cons (pv 4) pa_nil)))) pa_nil)))))))))))), ?_⟩
  cases tr with
  | no nt =>
    obtain ⟨t, ty, kt⟩ := nt
    exact ⟨_, rfl, _, _, _, _, false, rfl, .ty _, ty, kit_ty kt, _, rfl, iteT (iteT (q _ (Same.refl _)))⟩
  | @short a xs ha hl =>
    refine ⟨_, rfl, _, _, _, _, true, rfl, .ty _, (.base (.tup ha)), kit_ty (by decide +kernel), _, rfl, iteF ?_⟩
    refine ⟨_, rfl, a, _, rfl, .inr (SqT.of ha), _, _, rfl, rfl, _, rfl, ?_⟩
    rw [show decide (((xs.length : Nat) : Int) < 2) = true from decide_eq_true (by omega)]
    exact iteT (iteT (q _ (Same.refl _)))
  | @of a k nm xs b1 b2 ha hlx h1 h2 =>
    refine ⟨_, rfl, _, _, _, _, true, rfl, .ty _, (.base (.tup ha)), kit_ty (by decide +kernel), _, rfl, iteF ?_⟩
    refine ⟨_, rfl, a, _, rfl, .inr (SqT.of ha), _, _, rfl, rfl, _, rfl, ?_⟩
    rw [show decide (((k :: nm :: xs).length : Int) < 2) = false from decide_eq_false (by rw [List.length_cons, List.length_cons]; omega)]
    refine iteF ?_
    refine ⟨_, rfl, a, _, 1, _, rfl, rfl, SqT.of ha, atI_nat (j := 1) rfl, ask_name h1 fun H1 s1 => ?_⟩
    cases b1 with
    | false => exact ⟨_, rfl, iteT (q _ s1)⟩
    | true =>
    refine ⟨_, rfl, iteF ?_⟩
    rw [show (true && b2) = b2 from rfl] at q
    have ha1 := s1 _ _ ha
    refine ⟨_, rfl, a, _, rfl, SqT.of ha1, (by show 2 ≤ _ + 2; omega), fun p hp0 => ?_⟩
    have s2 := s1.trans (same_upd hp0 (.lst xs))
    have hl : upd H1 p (.lst xs) p = some (.lst xs) := upd_same
    refine ⟨_, _, rfl, _, _, rfl, _, _, rfl, rfl, ?_⟩
    have h3 := h2.to (Same.tys s2) (Same.tups s2)
    refine ⟨_, rfl, ?_⟩
    cases h3 with
    | src =>
      refine ⟨rfl, _, rfl, iteT ?_⟩
      cases xs with
      | nil => exact ⟨_, rfl, _, .inl ⟨_, SqL.of hl, rfl⟩, q _ s2⟩
      | cons x xs => exact ⟨_, rfl, _, .inl ⟨_, SqL.of hl, rfl⟩, q _ s2⟩
    | mix0 hn =>
      refine ⟨rfl, _, rfl, iteF ?_⟩
      refine ⟨_, rfl, rfl, _, rfl, iteT ?_⟩
      refine ⟨_, rfl, p, _, rfl, .inl (SqL.of hl), rfl, _, rfl, ?_⟩
      rw [show decide (V.int (xs.length : Nat) = V.int 1) = false from decide_eq_false fun e => hn (by have := V.int.inj e; omega)]
      exact iteF (q _ s2)
    | @mix x b ht =>
      refine ⟨rfl, _, rfl, iteF ?_⟩
      refine ⟨_, rfl, rfl, _, rfl, iteT ?_⟩
      refine ⟨_, rfl, p, _, rfl, .inl (SqL.of hl), rfl, _, rfl, iteT ?_⟩
      exact ⟨_, rfl, p, _, 0, x, rfl, rfl, SqL.of hl, rfl, x, b2, rfl, ht, fun H3 s3 => q _ (s2.trans s3)⟩
    | use0 hn =>
      refine ⟨rfl, _, rfl, iteF ?_⟩
      refine ⟨_, rfl, rfl, _, rfl, iteF ?_⟩
      refine ⟨_, rfl, rfl, _, rfl, iteT ?_⟩
      refine ⟨_, rfl, p, _, rfl, .inl (SqL.of hl), rfl, _, rfl, ?_⟩
      rw [show decide (V.int (xs.length : Nat) = V.int 2) = false from decide_eq_false fun e => hn (by have := V.int.inj e; omega)]
      exact iteF (q _ s2)
    | @use x y c1 c2 hx hy =>
      refine ⟨rfl, _, rfl, iteF ?_⟩
      refine ⟨_, rfl, rfl, _, rfl, iteF ?_⟩
      refine ⟨_, rfl, rfl, _, rfl, iteT ?_⟩
      refine ⟨_, rfl, p, _, rfl, .inl (SqL.of hl), rfl, _, rfl, iteT ?_⟩
      refine ⟨_, rfl, p, _, 0, x, rfl, rfl, SqL.of hl, rfl, ask_name hx fun H3 s3 => ?_⟩
      cases c1 with
      | false => exact ⟨_, rfl, iteF (q _ (s2.trans s3))⟩
      | true =>
        refine ⟨_, rfl, iteT ?_⟩
        exact ⟨_, rfl, p, _, 1, y, rfl, rfl, SqL.of (s3 _ _ hl), atI_nat (j := 1) rfl, y, c2, rfl, hy.to (Same.tys s3) (Same.tups s3), fun H4 s4 => q _ ((s2.trans s3).trans s4)⟩
    | @box0 z _ k4 hn =>
      obtain ⟨n0, n1, n2⟩ := kinds4_ne k4
      refine ⟨rfl, _, rfl, ?_⟩
      rw [decide_eq_false (fun e => n0 (V.str.inj e))]
      refine iteF ⟨_, rfl, rfl, _, rfl, ?_⟩
      rw [decide_eq_false (fun e => n1 (V.str.inj e))]
      refine iteF ⟨_, rfl, rfl, _, rfl, ?_⟩
      rw [decide_eq_false (fun e => n2 (V.str.inj e))]
      refine iteF ?_
      obtain ⟨te, ete⟩ := e4 z k4
      refine ⟨_, rfl, _, true, rfl, .box k4, fun H3 s3 => ⟨_, rfl, iteT ?_⟩⟩
      refine ⟨_, rfl, p, _, rfl, .inl (SqL.of (s3 _ _ hl)), _, rfl, d, z, .int (if z = "pair" then 2 else 1), rfl, rfl, ⟨es, n, _, D.at_, D.lit, ete, ⟨_, rfl⟩⟩, 1, _, rfl, rfl, rfl, _, rfl, ?_⟩
      rw [show decide (V.int (xs.length : Nat) = V.int (1 + if z = "pair" then 2 else 1)) = false from decide_eq_false fun e => hn (by
        have := V.int.inj e
        by_cases e : z = "pair"
        · rw [if_pos e] at this ⊢
          omega
        · rw [if_neg e] at this ⊢
          omega)]
      exact iteF (q _ (s2.trans s3))
    | @box z _ bs k4 hn hA =>
      obtain ⟨n0, n1, n2⟩ := kinds4_ne k4
      refine ⟨rfl, _, rfl, ?_⟩
      rw [decide_eq_false (fun e => n0 (V.str.inj e))]
      refine iteF ⟨_, rfl, rfl, _, rfl, ?_⟩
      rw [decide_eq_false (fun e => n1 (V.str.inj e))]
      refine iteF ⟨_, rfl, rfl, _, rfl, ?_⟩
      rw [decide_eq_false (fun e => n2 (V.str.inj e))]
      refine iteF ?_
      obtain ⟨te, ete⟩ := e4 z k4
      refine ⟨_, rfl, _, true, rfl, .box k4, fun H3 s3 => ⟨_, rfl, iteT ?_⟩⟩
      have hl3 := s3 _ _ hl
      refine ⟨_, rfl, p, _, rfl, .inl (SqL.of hl3), _, rfl, d, z, .int (if z = "pair" then 2 else 1), rfl, rfl, ⟨es, n, _, D.at_, D.lit, ete, ⟨_, rfl⟩⟩, 1, _, rfl, rfl, rfl, _, rfl, ?_⟩
      rw [show decide (V.int (xs.length : Nat) = V.int (1 + if z = "pair" then 2 else 1)) = true from decide_eq_true (by
        rw [hn]
        by_cases e : z = "pair"
        · rw [if_pos e, if_pos e]
          rfl
        · rw [if_neg e, if_neg e]
          rfl)]
      refine iteT ?_
      refine ⟨_, rfl, p, rfl, ⟨_, SqL.of hl3⟩, fun L hL => ?_⟩
      have hx3 : xs.length ≤ 3 := by
        rw [hn]
        split <;> omega
      have s1' := same_upd hL (.lst [])
      refine lc_list (xs := xs) (fun i H2 => Same H3 H2 ∧ H2 L = some (.lst ((bs.take i).map V.bl))) ⟨s1', upd_same⟩ (fun i H2 _ h => SqL.of (h.1 _ _ hl3)) (fun i x H2 hx ⟨s4, hL2⟩ => ?_) (fun H2 ⟨s4, hL2⟩ => ?_)
      · have hi : i < xs.length := (List.getElem?_eq_some_iff.mp hx).1
        obtain ⟨t, ht⟩ : ∃ t, bs[i]? = some t := ⟨bs[i]'(by rw [← hA.1]; exact hi), List.getElem?_eq_getElem _⟩
        refine ⟨rfl, _, rfl, ask_name ((hA.2 i x t hx ht).to (Same.tys (s3.trans s4))) fun H5 s5 => ?_⟩
        refine ⟨_, s5 _ _ hL2, ?_, fun c o hc => ?_, ?_⟩
        · rw [List.length_map, List.length_take]
          exact small1000 (by omega)
        · rw [upd_ne (ne_of_none hc hL)]
          exact s5 _ _ (s4 _ _ hc)
        · rw [upd_same, List.take_add_one, ht, List.map_append]
          rfl
      · rw [show bs.take xs.length = bs by rw [hA.1]; exact List.take_length] at hL2
        refine ⟨L, bs, rfl, SqL.of hL2, ?_⟩
        exact q H2 ((s2.trans s3).trans s4)
    | odd hk =>
      obtain ⟨n0, n1, n2⟩ := hk.ne
      refine ⟨by cases hk <;> rfl, _, rfl, ?_⟩
      rw [decide_eq_false n0]
      refine iteF ⟨_, rfl, ?_, _, rfl, ?_⟩
      · first | rfl | (cases hk <;> rfl)
      rw [decide_eq_false n1]
      refine iteF ⟨_, rfl, ?_, _, rfl, ?_⟩
      · first | rfl | (cases hk <;> rfl)
      rw [decide_eq_false n2]
      refine iteF ?_
      exact ⟨_, rfl, _, false, rfl, hk, fun H3 s3 => ⟨_, rfl, iteF (q _ (s2.trans s3))⟩⟩
end
end Un
namespace Un
open PySem L2 TL
section
variable {P : Program} {w : World} {K : PySem.W.Frag} {mg : Str → Option Value} {base : Heap}
/-! ### what is refused ahead of the wires -/
open XV
def FirstF (cs : List Bool) (i : Nat) : Prop := cs[i]? = some false ∧ ∀ j, j < i → cs[j]? = some true
abbrev AllT (cs : List Bool) : Prop := ∀ b ∈ cs, b = true
def atF (c : Str) (i : Int) : List (Str × V) := [("at", .int i), ("code", .str c)]
theorem allT_of {cs : List Bool} {n : Nat} (l : cs.length = n) (h : ∀ j, j < n → cs[j]? = some true) : AllT cs := fun b hb => by
  obtain ⟨j, hj⟩ := List.getElem?_of_mem hb
  have := h j (by rw [← l]; exact (List.getElem?_eq_some_iff.mp hj).1)
  rw [hj] at this
  exact Option.some.inj this
theorem Kp.tys {a C dx : Addr} {fs fs' : List (Str × V)} {H H' : Hp} (k : Kp a H H') (h : H a = some (.ins C dx fs)) (h' : H' a = some (.ins C dx fs')) : Tys K H H' := fun x t q => by
  have kk : ∀ b o, H b = some o → (∀ z, o ≠ .ins C dx z) → H' b = some o := fun b o e n => k _ _ e (fun z => by rw [z, h] at e; exact n fs (Option.some.inj e).symm)
  cases q with
  | byt b => exact .byt b
  | set e => exact .set (kk _ _ e fun _ z => nomatch z)
  | kList e c => exact .kList e c
  | kTuple e c => exact .kTuple e c
  | kDict e c => exact .kDict e c
  | fTuple e => exact .fTuple (kk _ _ e fun _ z => nomatch z)
  | fDict e => exact .fDict (kk _ _ e fun _ z => nomatch z)
  | base q =>
    refine .base ?_
    cases q with
    | non => exact .non
    | bl x => exact .bl x
    | int i => exact .int i
    | str x => exact .str x
    | flt x => exact .flt x
    | lst e => exact .lst (kk _ _ e fun _ z => nomatch z)
    | frz e => exact .frz (kk _ _ e fun _ z => nomatch z)
    | tup e => exact .tup (kk _ _ e fun _ z => nomatch z)
    | dK e => exact .dK (kk _ _ e fun _ z => nomatch z)
    | dT e => exact .dT (kk _ _ e fun _ z => nomatch z)
    | @ins b C1 d1 f1 e0 cl e c1 c2 c3 =>
      by_cases z : b = a
      · rw [z, h] at e0
        cases e0
        rw [z]
        exact .ins h' cl e c1 c2 c3
      · exact .ins (k _ _ e0 z) cl e c1 c2 c3
def spCkOutsX (K : PySem.W.Frag) (CO : Addr) : Sp := fun vs H Q E => ∃ (o : Addr) (os : List V) (cs : List Bool), vs = [.ref o] ∧ H o = some (.lst os) ∧ All2 (NmR K H) os cs ∧ os.length ≤ 100 ∧ (∀ i : Nat, FirstF cs i → XkE CO (atF "InvalidOuts" i) H E) ∧ (AllT cs → ¬ (1 ≤ os.length ∧ os.length ≤ 4) → XkE CO (atF "InvalidOuts" os.length) H E) ∧ (AllT cs → 1 ≤ os.length → os.length ≤ 4 → ∀ H', Same H H' → Q .non H')
theorem ok_ckOutsX {f CO fO fm : Addr} {fd dO dm : FuncData} {gO : List Value → List Value → List Value} (F : Fun K "check_outs" "check_outs" sCkOuts f fd) (T : NetTxt K w mg) (GM : Df P w K mg base 1 fm dm "is_name" ["value"] (AskM K)) (XO : Xr P w K mg base CO 1 fO dO "InvalidOuts" ["self", "at"] (spI1 CO "InvalidOuts" "at") gO) : FnOk P w K mg base (L2.CX P w) 3 f fd ["outs"] (spCkOutsX K CO) := by
  refine F.okX scCkOuts (fun vs H Q E h => ?_) (fun cdv A outer s H vs Q E hr h => ?_)
  · obtain ⟨o, os, cs, rfl, _⟩ := h
    rfl
  obtain ⟨o, os, cs, rfl, ho, hA, lo, q1, q2, q3⟩ := h
  obtain ⟨to, mouts⟩ := T.outs
  refine ⟨_, (pss_cons (ps_for (passes_of rfl) rfl (pi_enum (by rfl) T.enum (pa_cons (pv 0) pa_nil)) (pg_tup (by rfl) (pgs_cons (pg_name (i := 1) scCkOuts.nd rfl (by first | exact Or.inl rfl | exact Or.inr rfl)) (pgs_cons (pg_name (i := 2) scCkOuts.nd rfl (by first | exact Or.inl rfl | exact Or.inr rfl)) pgs_nil)))
 (pss_one (ps_if (pt_not (pt_val (pe_call GM.ok (hr.mono (by decide)) (by rfl) GM.m GM.kp GM.b .nil pass0 (pa_cons (pv 2) pa_nil))))
 (pss_one (ps_raise rfl (takes_of rfl rfl rfl rfl) (ExR.pmk_exo rfl (pe_mkG XO.x (hr.mono (by decide)) (by rfl) XO.kb (pa_cons (pv 1) pa_nil)))))
 pss_nil)))
 (pss_one (ps_if (pt_not (pt_chain op_le op_le pe_int (pe_callB call_len_seq (by rfl) T.len PySem.boot_len (pa_cons (pv 0) pa_nil)) (pe_glob (v := .int 4) (by rfl) mouts ⟨_, rfl⟩)))
 (pss_one (ps_raise rfl (takes_of rfl rfl rfl rfl) (ExR.pmk_exo rfl (pe_mkG XO.x (hr.mono (by decide)) (by rfl) XO.kb (pa_cons (pe_callB call_len_seq (by rfl) T.len PySem.boot_len (pa_cons (pv 0) pa_nil)) pa_nil)))))
 pss_nil))), ?_⟩
  refine ⟨_, rfl, o, _, rfl, SqL.of ho, ?_⟩
  refine for_it walk_enum (fun i σ H2 => (∃ v1 v2, σ = [some (.ref o), v1, v2]) ∧ Same H H2 ∧ ∀ j : Nat, (j : Int) < i → cs[j]? = some true) ⟨⟨_, _, rfl⟩, Same.refl H, fun j hj => absurd hj (by omega)⟩ (fun i σ H2 _ h => SqL.of (h.2.1 _ _ ho)) ?_ ?_
  · rintro i v σ H2 H3 hi ⟨⟨v1, v2, rfl⟩, s2, hp⟩ ⟨t, x, y, rfl, ht, rfl, hx, hy⟩
    cases hx
    have hy : os[i]? = some y := hy
    have hi' : i < os.length := (List.getElem?_eq_some_iff.mp hy).1
    obtain ⟨c, hc⟩ : ∃ c, cs[i]? = some c := ⟨cs[i]'(by rw [← hA.1]; exact hi'), List.getElem?_eq_getElem _⟩
    have s3 := s2.trans (same_upd ht (.tup [.int i, y]))
    refine ⟨t, _, rfl, SqT.of upd_same, rfl, _, _, rfl, _, _, rfl, rfl, ?_⟩
    refine ⟨_, rfl, ask_name ((hA.2 i y c hy hc).to (Same.tys s3)) fun H4 s4 => ?_⟩
    cases c with
    | true =>
      refine ⟨_, rfl, iteF ⟨⟨_, _, rfl⟩, s3.trans s4, fun j hj => ?_⟩⟩
      by_cases e : j = i
      · rw [e]
        exact hc
      · exact hp j (by omega)
    | false =>
      refine ⟨_, rfl, iteT ?_⟩
      exact ⟨_, rfl, rfl, rfl, (by decide), fun b hb => mk_raise1 XO.x.T rfl (s3.trans s4) hb (XkE.from (q1 i ⟨hc, fun j hj => hp j (by omega)⟩) (s3.trans s4))⟩
  · rintro σ H2 ⟨⟨v1, v2, rfl⟩, s2, hp⟩
    have ct : AllT cs := allT_of hA.1.symm fun j hj => hp j (by omega)
    refine ⟨_, rfl, o, _, rfl, .inl (SqL.of (s2 _ _ ho)), 1, _, rfl, rfl, _, rfl, ?_⟩
    by_cases l1 : 1 ≤ os.length
    case neg =>
      rw [show decide ((1 : Int) ≤ ((os.length : Nat) : Int)) = false from decide_eq_false (by omega)]
      refine iteF ⟨_, rfl, iteT ?_⟩
      exact ⟨_, rfl, o, _, rfl, .inl (SqL.of (s2 _ _ ho)), rfl, rfl, (by decide), fun b hb => mk_raise1 XO.x.T rfl s2 hb (XkE.from (q2 ct (fun z => l1 z.1)) s2)⟩
    rw [show decide ((1 : Int) ≤ ((os.length : Nat) : Int)) = true from decide_eq_true (by omega)]
    refine iteT ⟨_, _, rfl, rfl, _, rfl, ?_⟩
    by_cases l4 : os.length ≤ 4
    case neg =>
      rw [show decide (((os.length : Nat) : Int) ≤ 4) = false from decide_eq_false (by omega)]
      refine iteT ?_
      exact ⟨_, rfl, o, _, rfl, .inl (SqL.of (s2 _ _ ho)), rfl, rfl, (by decide), fun b hb => mk_raise1 XO.x.T rfl s2 hb (XkE.from (q2 ct (fun z => l4 z.2)) s2)⟩
    rw [show decide (((os.length : Nat) : Int) ≤ 4) = true from decide_eq_true (by omega)]
    exact iteF (q3 ct l1 l4 H2 s2)
end
end Un
namespace Un
open PySem L2 TL
section
variable {P : Program} {w : World} {K : PySem.W.Frag} {mg : Str → Option Value} {base : Heap}
/-! ### a net of whatever parts and outputs -/
open XV
def spNetV (K : PySem.W.Frag) (C : Addr) (c : Ecs) (cP cO : Addr) : Sp := fun vs H Q E => ∃ (a dx px py : Addr) (us : List V) (bs : List Bool) (ov : List V) (cs : List Bool), vs = [.ref a, .ref px, .ref py, .non] ∧ H a = some (.ins C dx []) ∧ (H px = some (.lst us) ∨ H px = some (.tup us)) ∧ All2 (PartR K H) us bs ∧ us.length ≤ 100 ∧ (H py = some (.lst ov) ∨ H py = some (.tup ov)) ∧ All2 (NmR K H) ov cs ∧ ov.length ≤ 100 ∧
  (∀ i : Nat, FirstF bs i → XkK a cP (atF "InvalidPart" i) H E) ∧
  (AllT bs → 16 < us.length → XkK a c.T (tmF "parts" 16) H E) ∧
  (AllT bs → us.length ≤ 16 → ∀ i : Nat, FirstF cs i → XkK a cO (atF "InvalidOuts" i) H E) ∧
  (AllT bs → us.length ≤ 16 → AllT cs → ¬ (1 ≤ ov.length ∧ ov.length ≤ 4) → XkK a cO (atF "InvalidOuts" ov.length) H E) ∧
  (AllT bs → us.length ≤ 16 → AllT cs → 1 ≤ ov.length → ov.length ≤ 4 → ∃ (ps : List Pt) (os : List Str), All2 (PtAt H) us ps ∧ ov = os.map V.str ∧ NetPre ps os ∧ (∀ f, netBad ps os f → XkN a c f H E) ∧ (NetOk ps os → ∀ H', Kp a H H' → NetAt H' C a us ps os → Q .non H'))
theorem ok_n_initV {f C cP cO fP fT fR fp fo fw fu ff fk fr fl fs fb : Addr} {c : Ecs} {fd dP dT dR dp d_o dw du df dk dr dl ds db : FuncData} {dvs : List V} {kws : List (Str × V)} {gP gT gR : List Value → List Value → List Value} (F : FunD K "__init__" "Net.__init__" (defArgs sN_init) (defBody sN_init) (defScope sN_init) dvs kws f fd) (C' : NetC K C) (T : NetTxt K w mg) (N : NiTxt mg)
    (GP : Df P w K mg base 5 fp dp "is_part" ["value"] (spAsk (PartR K))) (GO : DfX P w K mg base 3 fo d_o "check_outs" ["outs"] (spCkOutsX K cO)) (XP : Xr P w K mg base cP 1 fP dP "InvalidPart" ["self", "at"] (spI1 cP "InvalidPart" "at") gP) (GW : DfX P w K mg base 4 fw dw "check_wires" ["parts", "outs"] (spCkWiresX c.D c.U)) (XT : Xr P w K mg base c.T 2 fT dT "TooMany" ["self", "subject", "most"] (spI2 c.T "TooMany" "subject" "most") gT) (XR : Xr P w K mg base c.R 1 fR dR "Ring" ["self", "place"] (spI1 c.R "Ring" "place") gR) (GU : Df P w K mg base 1 fu du "check_uses" ["parts", "pieces"] spCkUses)
    (GF : Df P w K mg base 1 ff df "plain_of" ["parts", "pieces"] spPlainOf) (GK : DfX P w K mg base 3 fk dk "check_kinds" ["boxes"] (spCkKindsX c.K)) (GR : Df P w K mg base 2 fr dr "first_on_ring" ["leads"] spFirst) (GL : Df P w K mg base 2 fl dl "leads_of" ["part"] (spStrs leadsP))
    (MS : Mt P w K mg base C 1 fs ds "sources" ["self"] (spStrOf C "_parts" sourcesP)) (MB : Mt P w K mg base C 2 fb db "boxes" ["self"] (spBoxesM C)) :
    FnOk P w K mg base (L2.CX P w) 7 f fd netPs (spNetV K C c cP cO) := by
  refine F.ok scN_init (fun vs H Q E h => ?_) (fun cdv A outer s H vs Q E hr h => ?_)
  · obtain ⟨a, dx, px, py, us, bs, ov, cs, rfl, _⟩ := h
    rfl
  obtain ⟨a, dx, px, py, us, bs, ov, cs, rfl, ha, hpx, hB, ul, hpy, hC, vl, q1, q2, q3, q4, q5⟩ := h
  obtain ⟨ts, msrc⟩ := N.src
  obtain ⟨tw, mwir⟩ := N.wir
  obtain ⟨um, hmost⟩ := C'.most
  obtain ⟨ub, hbox⟩ := C'.boxes
  have npx : px ≠ a := by rcases hpx with h | h <;> exact ne_of h ha (by intro z; cases z)
  have npy : py ≠ a := by rcases hpy with h | h <;> exact ne_of h ha (by intro z; cases z)
  refine ⟨_, (pss_cons (ps_fld (pv 0) (pe_callTy call_list_of (by rfl) N.list (by decide +kernel) (pa_cons (pv 1) pa_nil)) rfl)
 (pss_cons (ps_fld (pv 0) (pe_callTy call_list_of (by rfl) N.list (by decide +kernel) (pa_cons (pv 2) pa_nil)) rfl)
 (pss_cons (ps_fld (pv 0) (pe_ifExp (pt_cmpR op_isN (pv 3) pe_non (nomark _)) pe_dnewK (pe_callTy call_dictD (by rfl) N.dict (by decide +kernel) (pa_cons (pv 3) pa_nil))) rfl)
 (pss_cons (ps_for (passes_of rfl) rfl (pi_enum (by rfl) T.enum (pa_cons (pe_fld (pv 0) rfl) pa_nil)) (pg_tup (by rfl) (pgs_cons (pg_name (i := 4) scN_init.nd rfl (by first | exact Or.inl rfl | exact Or.inr rfl)) (pgs_cons (pg_name (i := 5) scN_init.nd rfl (by first | exact Or.inl rfl | exact Or.inr rfl)) pgs_nil)))
 (pss_one (ps_if (pt_not (pt_val (pe_call GP.ok (hr.mono (by decide)) (by rfl) GP.m GP.kp GP.b .nil pass0 (pa_cons (pv 5) pa_nil))))
 (pss_one (ps_raise rfl (takes_of rfl rfl rfl rfl) (ExR.pmk_exo rfl (pe_mkG XP.x (hr.mono (by decide)) (by rfl) XP.kb (pa_cons (pv 4) pa_nil)))))
 pss_nil)))
 (pss_cons (ps_if (pt_cmpR op_gt (pe_callB call_len_seq (by rfl) N.len PySem.boot_len (pa_cons (pe_fld (pv 0) rfl) pa_nil)) (pe_con (pv 0) rfl) (nomark _))
 (pss_one (ps_raise rfl (takes_of rfl rfl rfl rfl) (ExR.pmk_exo rfl (pe_mkG XT.x (hr.mono (by decide)) (by rfl) XT.kb (pa_cons pe_str (pa_cons (pe_con (pv 0) rfl) pa_nil))))))
 pss_nil)
 (pss_cons (ps_expr (pe_callS GO.ok (hr.mono (by decide)) (by rfl) GO.m GO.kp GO.b (fun σ => passAt (takes_of rfl rfl rfl rfl) σ) (pa_cons (pe_fld (pv 0) rfl) pa_nil)))
 (pss_cons (ps_expr (pe_callS GW.ok (hr.mono (by decide)) (by rfl) GW.m GW.kp GW.b (fun σ => passAt (takes_of rfl rfl rfl rfl) σ) (pa_cons (pe_fld (pv 0) rfl) (pa_cons (pe_fld (pv 0) rfl) pa_nil))))
 (pss_cons (ps_if (pt_cmpR op_gt (pe_callB call_len_seq (by rfl) N.len PySem.boot_len (pa_cons (pe_meth0 (pv 0) C'.cl MS.mt MS.ok (hr.mono (by decide)) MS.b .nil pass0) pa_nil)) (pe_glob (v := .int 4) (by rfl) msrc ⟨_, rfl⟩) (nomark _))
 (pss_one (ps_raise rfl (takes_of rfl rfl rfl rfl) (ExR.pmk_exo rfl (pe_mkG XT.x (hr.mono (by decide)) (by rfl) XT.kb (pa_cons pe_str (pa_cons (pe_glob (v := .int 4) (by rfl) msrc ⟨_, rfl⟩) pa_nil))))))
 pss_nil)
 (pss_cons (ps_expr (pe_call GU.ok (hr.mono (by decide)) (by rfl) GU.m GU.kp GU.b .nil pass0 (pa_cons (pe_fld (pv 0) rfl) (pa_cons (pe_fld (pv 0) rfl) pa_nil))))
 (pss_cons (ps_fld (pv 0) (pe_call GF.ok (hr.mono (by decide)) (by rfl) GF.m GF.kp GF.b .nil pass0 (pa_cons (pe_fld (pv 0) rfl) (pa_cons (pe_fld (pv 0) rfl) pa_nil))) rfl)
 (pss_cons (ps_if (pt_cmpR op_gt (pe_callB call_len_seq (by rfl) N.len PySem.boot_len (pa_cons (pe_fld (pv 0) rfl) pa_nil)) (pe_glob (v := .int 24) (by rfl) mwir ⟨_, rfl⟩) (nomark _))
 pss_never
 pss_nil)
 (pss_cons (ps_if (pt_cmpR op_gt (pe_callB call_len_seq (by rfl) N.len PySem.boot_len (pa_cons (pe_meth0 (pv 0) C'.cl MB.mt MB.ok (hr.mono (by decide)) MB.b .nil pass0) pa_nil)) (pe_con (pv 0) rfl) (nomark _))
 (pss_one (ps_raise rfl (takes_of rfl rfl rfl rfl) (ExR.pmk_exo rfl (pe_mkG XT.x (hr.mono (by decide)) (by rfl) XT.kb (pa_cons pe_str (pa_cons (pe_con (pv 0) rfl) pa_nil))))))
 pss_nil)
 (pss_cons (ps_expr (pe_callS GK.ok (hr.mono (by decide)) (by rfl) GK.m GK.kp GK.b (fun σ => passAt (takes_of rfl rfl rfl rfl) σ) (pa_cons (pe_meth0 (pv 0) C'.cl MB.mt MB.ok (hr.mono (by decide)) MB.b .nil pass0) pa_nil)))
 (pss_cons (ps_set (i := 6) scN_init.nd rfl (by first | exact Or.inl rfl | exact Or.inr rfl) (pe_call GR.ok (hr.mono (by decide)) (by rfl) GR.m GR.kp GR.b .nil pass0 (pa_cons (pe_dc (own := [("part", 5)]) (g := (gName 5)) rfl scN_init.nd (pi_list (pe_fld (pv 0) rfl)) (blkOk_by (own := [("part", 5)]) (N := ["self", "parts", "outs", "pieces", "at", "part", "place"]) (sc := defScope sN_init) (by decide +kernel)) (fun _ _ _ _ _ => (pg_name (i := 5) scN_init.nd rfl (Or.inl rfl) (Or.inr rfl))) (fun _ _ _ _ _ => pts_nil) (fun _ _ _ _ _ => (pe_ix (ixT (K := K) rfl) (pv 5) pe_int (fun _ _ => rfl))) (fun _ _ _ _ _ => (pe_call GL.ok (hr.mono (by decide)) (by rfl) GL.m GL.kp GL.b .nil pass0 (pa_cons (pv 5) pa_nil)))) pa_nil)))
 (pss_one (ps_if (pt_cmpR op_notN (pv 6) pe_non (nomark _))
 (pss_one (ps_raise rfl (takes_of rfl rfl rfl rfl) (ExR.pmk_exo rfl (pe_mkG XR.x (hr.mono (by decide)) (by rfl) XR.kb (pa_cons (pv 6) pa_nil)))))
 pss_nil)))))))))))))))), ?_⟩
  -- the fields
  refine ⟨_, rfl, px, us, rfl, hpx.elim (fun h => .inl (SqL.of h)) (fun h => .inr (SqT.of h)), fun p hp => ?_⟩
  have nap : a ≠ p := ne_of_none ha hp
  refine ⟨_, rfl, a, C, dx, [], rfl, by rw [upd_ne nap]; exact ha, C'.cl, C'.p, (by show (0 : Nat) < 1000; decide), ?_⟩
  generalize hH1 : upd (upd H p (.lst us)) a (.ins C dx (putF "_parts" (.ref p) [])) = H1
  have k1 : Kp a H H1 := fun b ob hb n => by
    rw [← hH1, upd_ne n, upd_ne (ne_of_none hb hp)]
    exact hb
  have a1 : H1 a = some (.ins C dx [("_parts", .ref p)]) := by rw [← hH1]; exact upd_same
  have p1 : H1 p = some (.lst us) := by rw [← hH1, upd_ne nap.symm]; exact upd_same
  have hpy1 : H1 py = some (.lst (ov)) ∨ H1 py = some (.tup (ov)) := hpy.elim (fun h => .inl (k1 _ _ h npy)) (fun h => .inr (k1 _ _ h npy))
  refine ⟨_, rfl, py, ov, rfl, hpy1.elim (fun h => .inl (SqL.of h)) (fun h => .inr (SqT.of h)), fun o ho => ?_⟩
  have nao : a ≠ o := ne_of_none a1 ho
  have npo : p ≠ o := ne_of_none p1 ho
  refine ⟨_, rfl, a, C, dx, _, rfl, by rw [upd_ne nao]; exact a1, C'.cl, C'.o, (by show (1 : Nat) < 1000; decide), ?_⟩
  generalize hH2 : upd (upd H1 o (.lst (ov))) a (.ins C dx (putF "_outs" (.ref o) [("_parts", .ref p)])) = H2
  have k2 : Kp a H1 H2 := fun b ob hb n => by
    rw [← hH2, upd_ne n, upd_ne (ne_of_none hb ho)]
    exact hb
  have a2 : H2 a = some (.ins C dx [("_parts", .ref p), ("_outs", .ref o)]) := by rw [← hH2]; exact upd_same
  have p2 : H2 p = some (.lst us) := k2 _ _ p1 nap.symm
  have o2 : H2 o = some (.lst (ov)) := by rw [← hH2, upd_ne nao.symm]; exact upd_same
  refine ⟨_, rfl, rfl, _, rfl, iteT ?_⟩
  intro d hd
  have nad : a ≠ d := ne_of_none a2 hd
  refine ⟨_, rfl, a, C, dx, _, rfl, by rw [upd_ne nad]; exact a2, C'.cl, C'.d, (by show (2 : Nat) < 1000; decide), ?_⟩
  generalize hH3 : upd (upd H2 d (.dK [])) a (.ins C dx (putF "_pieces" (.ref d) [("_parts", .ref p), ("_outs", .ref o)])) = H3
  have k3 : Kp a H2 H3 := fun b ob hb n => by
    rw [← hH3, upd_ne n, upd_ne (ne_of_none hb hd)]
    exact hb
  have a3 : H3 a = some (.ins C dx [("_parts", .ref p), ("_outs", .ref o), ("_pieces", .ref d)]) := by rw [← hH3]; exact upd_same
  have p3 : H3 p = some (.lst us) := k3 _ _ p2 nap.symm
  have o3 : H3 o = some (.lst (ov)) := k3 _ _ o2 nao.symm
  have d3 : H3 d = some (.dK []) := by rw [← hH3, upd_ne nad.symm]; exact upd_same
  have k03 : Kp a H H3 := (k1.trans k2).trans k3
  have tk3 : Tys K H H3 := k03.tys ha a3
  have up3 : Tups H H3 := fun b xs hb => k03 _ _ hb (ne_of hb ha (by intro z; cases z))
  have B3 : All2 (PartR K H3) us bs := hB.mono fun _ _ z => z.to tk3 up3
  have C3 : All2 (NmR K H3) ov cs := hC.mono fun _ _ z => z.to tk3
  -- the parts, one by one
  refine ⟨_, rfl, a, C, dx, _, _, rfl, a3, C'.cl, C'.p, rfl, p, us, rfl, SqL.of p3, ?_⟩
  refine for_it walk_enum (fun i σ H4 => (∃ v4 v5 v6, σ = [some (.ref a), some (.ref px), some (.ref py), some .non, v4, v5, v6]) ∧ Same H3 H4 ∧ ∀ j : Nat, (j : Int) < i → bs[j]? = some true) ⟨⟨_, _, _, rfl⟩, Same.refl _, fun j hj => absurd hj (by omega)⟩ (fun i σ H4 _ h => SqL.of (h.2.1 _ _ p3)) ?_ ?_
  · rintro i v σ H4 H5 hi ⟨⟨v4, v5, v6, rfl⟩, s4, hp⟩ ⟨t, x, y, rfl, ht, rfl, hx, hy⟩
    cases hx
    have hy : us[i]? = some y := hy
    have hi' : i < us.length := (List.getElem?_eq_some_iff.mp hy).1
    obtain ⟨c, hc⟩ : ∃ c, bs[i]? = some c := ⟨bs[i]'(by rw [← hB.1]; exact hi'), List.getElem?_eq_getElem _⟩
    have s5 := s4.trans (same_upd ht (.tup [.int i, y]))
    refine ⟨t, _, rfl, SqT.of upd_same, rfl, _, _, rfl, _, _, rfl, rfl, ?_⟩
    refine ⟨_, rfl, y, c, rfl, (B3.2 i y c hy hc).to (Same.tys s5) (Same.tups s5), fun H6 s6 => ?_⟩
    have s56 := s5.trans s6
    cases c with
    | true =>
      refine ⟨_, rfl, iteF ⟨⟨_, _, _, rfl⟩, s56, fun j hj => ?_⟩⟩
      by_cases e : j = i
      · rw [e]
        exact hc
      · exact hp j (by omega)
    | false =>
      refine ⟨_, rfl, iteT ?_⟩
      refine ⟨_, rfl, rfl, rfl, (by decide), fun b hb => ?_⟩
      have k06 := k03.trans (Same.kp s56)
      exact mk_raise1F XP.x.T (fr0_none (show H b = none from kp_none k06 (s56 _ _ a3) hb)) hb fun d' H' s' hd' hd'' => XkK.to (q1 i ⟨hc, fun j hj => hp j (by omega)⟩) k06 (s56 _ _ a3) d' H' s' hd' hd''
  rintro σ H4 ⟨⟨v4, v5, v6, rfl⟩, s4, hp⟩
  have bt : AllT bs := allT_of hB.1.symm fun j hj => hp j (by omega)
  refine ⟨_, rfl, a, C, dx, _, _, rfl, s4 _ _ a3, C'.cl, C'.p, rfl, p, us, rfl, .inl (SqL.of (s4 _ _ p3)), _, rfl, a, C, dx, _, _, um, rfl, s4 _ _ a3, C'.cl, hmost, rfl, _, 16, rfl, rfl, _, rfl, ?_⟩
  by_cases h16 : us.length ≤ 16
  case neg =>
    rw [show decide (((us.length : Nat) : Int) > 16) = true from decide_eq_true (by omega)]
    refine iteT ?_
    refine ⟨_, rfl, a, C, dx, _, _, um, rfl, s4 _ _ a3, C'.cl, hmost, rfl, rfl, rfl, (by decide), fun b hb => ?_⟩
    have k07 := k03.trans (Same.kp s4)
    exact mk_raise2 XT.x.T (fr0_none (show H b = none from kp_none k07 (s4 _ _ a3) hb)) hb fun d' H' s' hd' hd'' => XkK.to (q2 bt (by omega)) k07 (s4 _ _ a3) d' H' s' hd' hd''
  rw [show decide (((us.length : Nat) : Int) > 16) = false from decide_eq_false (by omega)]
  refine iteF ?_
  refine ⟨_, rfl, a, C, dx, _, _, rfl, s4 _ _ a3, C'.cl, C'.o, rfl, o, ov, cs, rfl, s4 _ _ o3, C3.mono fun _ _ z => z.to (Same.tys s4), vl, ?_, ?_, ?_⟩
  · exact fun i hi => XkK.to (q3 bt h16 i hi) (k03.trans (Same.kp s4)) (s4 _ _ a3)
  · exact fun ct hl => XkK.to (q4 bt h16 ct hl) (k03.trans (Same.kp s4)) (s4 _ _ a3)
  intro ct l1 l4 H5 s5'
  obtain ⟨ps, os, hA, rfl, nk, bad, q⟩ := q5 bt h16 ct l1 l4
  have A3 : All2 (PtAt H3) us ps := hA.mono fun _ _ z => z.tups up3
  have ln : us.length = ps.length := A3.1
  have h16 : ps.length ≤ 16 := by omega
  have pl := nk.l
  have pa3 : PsAt H3 p us ps := ⟨p3, A3, nk.ok, by omega⟩
  have s5 := s4.trans s5'
  refine ⟨_, rfl, a, C, dx, _, _, rfl, s5 _ _ a3, C'.cl, C'.p, rfl, _, rfl, a, C, dx, _, _, rfl, s5 _ _ a3, C'.cl, C'.o, rfl, p, o, us, ps, os, rfl, pa3.same s5, s5 _ _ o3, ?_⟩
  have ka5 := k03.trans (Same.kp s5)
  cases hflt : wireFlt ps os with
  | some flt =>
    refine FltK.to (a := a) ?_ ka5 (s5 _ _ a3)
    cases flt with
    | dup w => exact bad (.dup w) ⟨h16, hflt⟩
    | unk w => exact bad (.unk w) ⟨h16, hflt⟩
  | none =>
  refine fun H6 s6' => ?_
  have s6 := s5.trans s6'
  refine ⟨_, rfl, a, dx, _, rfl, s6 _ _ a3, rfl, a, dx, p, _, us, ps, rfl, s6 _ _ a3, rfl, pa3.same s6, fun l H7 s7' hl hl7 => ?_⟩
  have s7 := s6.trans s7'
  refine ⟨l, _, rfl, .inl (SqL.of hl7), _, _, rfl, rfl, _, rfl, ?_⟩
  by_cases hsrc : (sourcesP ps).length ≤ 4
  case neg =>
    rw [show decide (((((sourcesP ps).map V.str).length : Nat) : Int) > 4) = true from decide_eq_true (by rw [List.length_map]; omega)]
    refine iteT ?_
    refine ⟨rfl, rfl, (by decide), fun b hb => ?_⟩
    have k07 := k03.trans (Same.kp s7)
    exact mk_raise2 XT.x.T (fr0_none (show H b = none from kp_none k07 (s7 _ _ a3) hb)) hb fun d' H' s' hd' hd'' => XkK.to (bad .src ⟨h16, hflt, by omega⟩) k07 (s7 _ _ a3) d' H' s' hd' hd''
  have wd := net_wired hflt
  rw [show decide (((((sourcesP ps).map V.str).length : Nat) : Int) > 4) = false from decide_eq_false (by rw [List.length_map]; omega)]
  refine iteF ?_
  refine ⟨_, rfl, a, C, dx, _, _, rfl, s7 _ _ a3, C'.cl, C'.p, rfl, _, rfl, a, C, dx, _, _, rfl, s7 _ _ a3, C'.cl, C'.d, rfl, p, us, ps, .ref d, rfl, pa3.same s7, fun H8 s8' => ?_⟩
  have s8 := s7.trans s8'
  refine ⟨_, rfl, a, C, dx, _, _, rfl, s8 _ _ a3, C'.cl, C'.p, rfl, _, rfl, a, C, dx, _, _, rfl, s8 _ _ a3, C'.cl, C'.d, rfl, p, us, ps, .ref d, rfl, pa3.same s8, fun m H9 s9' hm hm9 => ?_⟩
  have s9 := s8.trans s9'
  have nam : a ≠ m := ne_of_none (s8 _ _ a3) hm
  refine ⟨_, rfl, a, C, dx, _, rfl, s9 _ _ a3, C'.cl, C'.m, (by show (3 : Nat) < 1000; decide), ?_⟩
  generalize hH10 : upd H9 a (.ins C dx (putF "_plain" (.ref m) [("_parts", .ref p), ("_outs", .ref o), ("_pieces", .ref d)])) = H10
  have k10 : Kp a H9 H10 := fun b ob hb n => by
    rw [← hH10, upd_ne n]
    exact hb
  have a10 : H10 a = some (.ins C dx (netFs p o d m)) := by rw [← hH10]; exact upd_same
  have p10 : H10 p = some (.lst us) := k10 _ _ (s9 _ _ p3) nap.symm
  have o10 : H10 o = some (.lst (os.map V.str)) := k10 _ _ (s9 _ _ o3) nao.symm
  have d10 : H10 d = some (.dK []) := k10 _ _ (s9 _ _ d3) nad.symm
  have m10 : H10 m = some (.lst us) := k10 _ _ hm9 nam.symm
  have A10 : All2 (PtAt H10) us ps := (A3.mono fun _ _ z => z.tups (Same.tups s9)).mono fun _ _ z => z.tups fun b xs hb => k10 _ _ hb (ne_of hb (s9 _ _ a3) (by intro z; cases z))
  have pam : PsAt H10 m us ps := ⟨m10, A10, nk.ok, by omega⟩
  have k010 : Kp a H H10 := (k03.trans (Same.kp s9)).trans k10
  -- the plain net
  refine ⟨_, rfl, a, C, dx, _, _, rfl, a10, C'.cl, C'.m, rfl, m, us, rfl, .inl (SqL.of m10), _, _, rfl, rfl, _, rfl, ?_⟩
  rw [show decide (((us.length : Nat) : Int) > 24) = false from decide_eq_false (by omega)]
  refine iteF ?_
  refine ⟨_, rfl, a, dx, _, rfl, a10, rfl, a, dx, m, _, us, ps, rfl, a10, rfl, pam, fun l2 bs H11 s11 hl2 hl11 hb11 => ?_⟩
  refine ⟨l2, _, rfl, .inl (SqL.of hl11), _, rfl, a, C, dx, _, _, ub, rfl, s11 _ _ a10, C'.cl, hbox, rfl, _, 8, rfl, rfl, _, rfl, ?_⟩
  by_cases hbx : (boxesP ps).length ≤ 8
  case neg =>
    rw [show decide (((bs.length : Nat) : Int) > 8) = true from decide_eq_true (by rw [hb11.1]; omega)]
    refine iteT ?_
    refine ⟨_, rfl, a, C, dx, _, _, ub, rfl, s11 _ _ a10, C'.cl, hbox, rfl, rfl, rfl, (by decide), fun b hb => ?_⟩
    have k07 := k010.trans (Same.kp s11)
    exact mk_raise2 XT.x.T (fr0_none (show H b = none from kp_none k07 (s11 _ _ a10) hb)) hb fun d' H' s' hd' hd'' => XkK.to (bad .boxes ⟨h16, hflt, hsrc, by omega⟩) k07 (s11 _ _ a10) d' H' s' hd' hd''
  rw [show decide (((bs.length : Nat) : Int) > 8) = false from decide_eq_false (by rw [hb11.1]; omega)]
  refine iteF ?_
  refine ⟨_, rfl, a, dx, _, rfl, s11 _ _ a10, rfl, a, dx, m, _, us, ps, rfl, s11 _ _ a10, rfl, pam.same s11, fun l3 bs3 H12 s12' hl3 hl12 hb12 => ?_⟩
  have s12 := s11.trans s12'
  refine ⟨l3, bs3, boxesP ps, rfl, hl12, hb12, by omega, ?_⟩
  cases hun : unlikeOf (boxesP ps) with
  | some f => exact XkK.to (bad (.unlike f) ⟨h16, hflt, hsrc, hbx, hun⟩) (k010.trans (Same.kp s12)) (s12 _ _ a10)
  | none =>
  refine fun H13 s13' => ?_
  have s13 := s12.trans s13'
  -- no ring
  refine ⟨_, rfl, a, C, dx, _, _, rfl, s13 _ _ a10, C'.cl, C'.m, rfl, m, rfl, ⟨_, SqL.of (s13 _ _ m10)⟩, fun D hD => ?_⟩
  refine dc_lst (xs := us) (fun i H2 => Same H13 H2 ∧ ∃ kvs, H2 D = some (.dK kvs) ∧ All2 (EntryAt H2) kvs (graphP (ps.take i))) ⟨same_upd hD _, [], upd_same, rfl, fun i u v hu => by cases hu⟩ (fun i H2 _ h => SqL.of (h.1 _ _ (s13 _ _ m10))) (fun i x H2 hx ⟨s2, kvs, hD2, hG2⟩ => ?_) (fun H2 ⟨s2, kvs, hD2, hG2⟩ => ?_)
  · obtain ⟨pp, hpp, pt, pok⟩ := (pam.same (s13.trans s2)).nth hx
    obtain ⟨b, r, rfl, hb⟩ := pt.two
    have hi := (List.getElem?_eq_some_iff.mp hpp).1
    have tk : ps.take (i + 1) = ps.take i ++ [pp] := by rw [List.take_add_one, hpp]; rfl
    refine ⟨rfl, _, rfl, b, _, 1, _, rfl, rfl, SqT.of hb, atI_nat (j := 1) rfl, _, rfl, .ref b, pp, rfl, pt, pok.ok, pok.sm, pok.nu, fun l4 H4 s4 hl4 hl44 => ?_⟩
    have hw : (wiresP ps)[i]? = some (Pw pp) := by rw [List.getElem?_map, hpp]; rfl
    have hn : Pw pp ∉ (graphP (ps.take i)).map (·.1) := by
      rw [graphP_keys]
      have := nd_take wd.nd hw
      rw [← List.map_take] at this
      exact this
    have G4 : All2 (EntryAt H4) kvs (graphP (ps.take i)) := hG2.mono fun _ _ z => z.same s4
    refine ⟨kvs, Sum.inr (Pw pp), rfl, s4 _ _ hD2, ?_, fun c oc hc => ?_, kvs ++ [(Sum.inr (Pw pp), .ref l4)], ?_, ?_⟩
    · rw [hG2.1]
      unfold graphP
      rw [List.length_map]
      exact small1000 (Nat.le_trans (List.length_take_le _ _) (by omega))
    · rw [upd_ne (ne_of_none hc hD)]
      exact s4 _ _ (s2 _ _ hc)
    · rw [upd_same, putK_new _ (entries_none G4 hn)]
    · have nD : ∀ {e : Addr} {xs : List V}, H4 e = some (.lst xs) → e ≠ D := fun he => ne_of he (s4 _ _ hD2) (by intro z; cases z)
      rw [tk]
      unfold graphP
      rw [List.map_append]
      refine All2.snoc (G4.mono fun kv g z => ?_) ⟨rfl, l4, rfl, by rw [upd_ne (nD hl44)]; exact hl44⟩
      obtain ⟨e1, l, e2, hl⟩ := z
      exact ⟨e1, l, e2, by rw [upd_ne (nD hl)]; exact hl⟩
  rw [A10.1, List.take_length] at hG2
  refine ⟨D, kvs, graphP ps, rfl, hD2, hG2, net_gok nk wd, fun v H14 s14 fst => ?_⟩
  have s15 := (s13.trans s2).trans s14
  cases v with
  | str z =>
    refine ⟨_, rfl, rfl, _, rfl, iteT ?_⟩
    refine ⟨_, rfl, rfl, rfl, (by decide), fun b hb => ?_⟩
    have k15 := k010.trans (Same.kp s15)
    exact mk_raise1F XR.x.T (fr0_none (show H b = none from kp_none k15 (s15 _ _ a10) hb)) hb fun d' H' s' hd' hd'' => XkK.to (bad (.ring z) ⟨h16, hflt, hsrc, hbx, hun, fst⟩) k15 (s15 _ _ a10) d' H' s' hd' hd''
  | non =>
    refine ⟨_, rfl, rfl, _, rfl, iteF ?_⟩
    have ring : ∀ z, ¬ Rch (graphP ps) z z := fun z r => by
      rcases fst with ⟨_, h⟩ | ⟨i, y, _, _, _, e⟩
      · by_cases hz : z ∈ (graphP ps).map (·.1)
        · exact h z hz r
        · exact hz (r.key (net_gok nk wd))
      · cases e
    have nok : NetOk ps os := ⟨nk.ok, h16, wd.nd, wd.known, nk.oso, wd.outs, hsrc, hbx, agree_of hun, ring⟩
    exact q nok H14 (k010.trans (Same.kp s15)) ⟨⟨dx, p, o, d, m, s15 _ _ a10, s15 _ _ p10, s15 _ _ o10, s15 _ _ d10, s15 _ _ m10⟩, A10.mono fun _ _ z => z.tups (Same.tups s15), nok⟩
  | _ =>
    rcases fst with ⟨h, _⟩ | ⟨i, y, _, _, _, e⟩
    · cases h
    · cases e
end
end Un
namespace Un
open PySem L2 TL
section
variable {P : Program} {w : World} {K : PySem.W.Frag} {mg : Str → Option Value} {base : Heap}
/-! ### parts of a weaker shape: their wires need not be names -/
def ShU : Pt → Prop
  | .flat k w es => ¬ k = "mix" ∧ ¬ k = "use" ∧ w.length ≤ 100 ∧ es.length ≤ 10 ∧ (∀ e ∈ es, e.length ≤ 100) ∧ ((k = "source" ∧ es = []) ∨ (k ∈ kinds4 ∧ ∃ f e r, es = f :: e :: r))
  | .mix w ts => w.length ≤ 100 ∧ ts.length ≤ 10 ∧ ∀ t ∈ ts, t.a.length ≤ 100
  | .use w _ es => w.length ≤ 100 ∧ es.length ≤ 10 ∧ ∀ e ∈ es, e.length ≤ 100
theorem ShU.of {p : Pt} (ok : OkP p) (sm : SmP p) : ShU p := by
  cases p with
  | flat k w es =>
    obtain ⟨n1, n2, l1, l2, l3, l4⟩ := sm
    refine ⟨n1, n2, by omega, l3, fun e he => by have := l4 e he; omega, ?_⟩
    rcases ok.2 with h | ⟨hk, f, e, rfl, _⟩ | ⟨rfl, f, e, g, rfl, _⟩
    · exact .inl h
    · exact .inr ⟨by rcases hk with rfl | rfl | rfl <;> decide, f, e, [], rfl⟩
    · exact .inr ⟨by decide, f, e, [g], rfl⟩
  | mix w ts => exact ⟨by have := sm.1; omega, sm.2.1, fun t ht => by have := (sm.2.2 t ht).a; omega⟩
  | use w p es => exact ⟨by have := sm.1; omega, sm.2.2.1, fun e he => by have := sm.2.2.2 e he; omega⟩
theorem endsU_len {p : Pt} (h : ShU p) : (endsP p).length ≤ 10 := by
  cases p with
  | flat k w es => have := h.2.2.2.1; show (es.drop 1).length ≤ 10; rw [List.length_drop]; omega
  | mix w ts => show (ts.map _).length ≤ 10; rw [List.length_map]; exact h.2.1
  | use w p es => exact h.2.1
theorem leadsU_len {p : Pt} (h : ShU p) : (leadsP p).length ≤ 10 := by
  cases p with
  | flat k w es => exact endsU_len h
  | mix w ts => show (List.map _ (ts.filter _)).length ≤ 10; rw [List.length_map]; exact Nat.le_trans (List.length_filter_le _ _) h.2.1
  | use w p es => exact h.2.1
def spStrsU (g : Pt → Prop) (f : Pt → List Str) : Sp := fun vs H Q _ => ∃ (x : V) (p : Pt), vs = [x] ∧ PtAt H x p ∧ ShU p ∧ g p ∧ ∀ (l : Addr) (H' : Hp), Same H H' → H l = none → H' l = some (.lst ((f p).map V.str)) → Q (.ref l) H'
theorem ok_wiresInU {f : Addr} {fd : FuncData} (F : Fun K "wires_in" "wires_in" sWiresIn f fd) (mlist : mg "list" = none) : FnOk P w K mg base CX0 1 f fd ["part"] (spStrsU (fun _ => True) endsP) := by
  refine F.ok scWiresIn (fun vs H Q E h => ?_) (fun cdv A outer s H vs Q E hr h => ?_)
  · obtain ⟨x, p, rfl, _⟩ := h
    rfl
  obtain ⟨x, p, rfl, hp, sh, _, q⟩ := h
  refine ⟨_, (pss_cons (ps_asg (pv 0) (pg_star (n := 2) rfl (pgs_cons (pg_name (i := 1) scWiresIn.nd rfl (by first | exact Or.inl rfl | exact Or.inr rfl)) (pgs_cons (pg_name (i := 2) scWiresIn.nd rfl (by first | exact Or.inl rfl | exact Or.inr rfl)) (pgs_star (pg_name (i := 3) scWiresIn.nd rfl (by first | exact Or.inl rfl | exact Or.inr rfl)))))))
 (pss_cons (ps_if (pt_cmpR op_eq (pv 1) pe_str (nomark _))
 (pss_one (ps_ret (pe_lc (own := [("_", 2), ("wire", 4)]) (g := (gTup K 3 (gCons (gName 2) (gCons (gName 2) (gCons (gName 4) gNil))))) rfl scWiresIn.nd (pi_tup (pe_ix ix_list (pv 3) pe_int (fun _ _ => rfl))) (blkOk_by (own := [("_", 2), ("wire", 4)]) (N := ["part", "kind", "_", "items", "wire"]) (sc := defScope sWiresIn) (by decide +kernel)) (fun _ _ _ _ _ => (pg_tup (n := 3) rfl (pgs_cons (pg_name (i := 2) scWiresIn.nd rfl (Or.inl rfl) (Or.inr rfl)) (pgs_cons (pg_name (i := 2) scWiresIn.nd rfl (Or.inl rfl) (Or.inr rfl)) (pgs_cons (pg_name (i := 4) scWiresIn.nd rfl (Or.inl rfl) (Or.inr rfl)) pgs_nil))))) (fun _ _ _ _ _ => pts_nil) (fun _ _ _ _ _ => (pv 4)))))
 pss_nil)
 (pss_cons (ps_if (pt_cmpR op_eq (pv 1) pe_str (nomark _))
 (pss_one (ps_ret (pe_callTy call_list_of (by rfl) mlist (by decide +kernel) (pa_cons (pe_ix ix_list (pv 3) pe_int (fun _ _ => rfl)) pa_nil))))
 pss_nil)
 (pss_one (ps_ret (pe_slice sl_list (pv 3) (po_some pe_int) po_none)))))), ?_⟩
  cases p with
  | use wr pn es =>
    obtain ⟨a, b, rfl, ha, hb⟩ := hp
    refine ⟨_, rfl, a, _, rfl, SqT.of ha, (by show 2 ≤ 4; decide), fun p hp0 => ?_⟩
    have s2 := same_upd hp0 (.lst [.str pn, .ref b])
    refine ⟨_, _, rfl, _, _, rfl, _, _, rfl, rfl, ?_⟩
    refine ⟨_, rfl, rfl, _, rfl, iteF ?_⟩
    refine ⟨_, rfl, rfl, _, rfl, iteT ?_⟩
    refine ⟨_, rfl, p, [.str pn, .ref b], 1, .ref b, rfl, rfl, SqL.of upd_same, atI_nat (j := 1) rfl, b, es.map V.str, rfl, .inr (SqT.of (s2 _ _ hb)), fun l hl => ?_⟩
    exact q l _ (s2.trans (same_upd hl _)) (s2.free hl) upd_same
  | mix wr ts =>
    obtain ⟨a, b, us, rfl, ha, hb, hA⟩ := hp
    obtain ⟨hw, hl, ht⟩ := sh
    refine ⟨_, rfl, a, _, rfl, SqT.of ha, (by show 2 ≤ 3; decide), fun p hp0 => ?_⟩
    have s2 := same_upd hp0 (.lst [.ref b])
    refine ⟨_, _, rfl, _, _, rfl, _, _, rfl, rfl, ?_⟩
    refine ⟨_, rfl, rfl, _, rfl, iteT ?_⟩
    refine ⟨_, rfl, p, [.ref b], 0, .ref b, rfl, rfl, SqL.of upd_same, rfl, ?_⟩
    refine ⟨b, rfl, ⟨_, SqT.of (s2 _ _ hb)⟩, fun D hD => ?_⟩
    have hD0 := s2.free hD
    refine lc_tup (xs := us) (fun i H2 => Same (upd H p (.lst [.ref b])) H2 ∧ H2 D = some (.lst ((ts.take i).map fun t => V.str t.a))) ⟨same_upd hD _, upd_same⟩ (fun i H2 _ h => SqT.of (h.1 _ _ (s2 _ _ hb))) (fun i x H2 hx ⟨s4, hD2⟩ => ?_) (fun H2 ⟨s4, hD2⟩ => ?_)
    · have hi : i < us.length := (List.getElem?_eq_some_iff.mp hx).1
      obtain ⟨t, ht⟩ : ∃ t, ts[i]? = some t := ⟨ts[i]'(by rw [← hA.1]; exact hi), List.getElem?_eq_getElem _⟩
      obtain ⟨c, rfl, hc⟩ := (hA.2 i x t hx ht).tups (Same.tups (s2.trans s4))
      refine ⟨c, _, rfl, SqT.of hc, rfl, _, _, rfl, _, _, rfl, _, _, rfl, rfl, rfl, _, rfl, _, hD2, ?_, fun e o he => ?_, ?_⟩
      · rw [List.length_map, List.length_take]
        exact small1000 (by omega)
      · rw [upd_ne (ne_of_none he hD)]
        exact s4 _ _ he
      · rw [upd_same, List.take_add_one, ht, List.map_append]
        rfl
    · refine q D H2 (s2.trans s4) hD0 ?_
      rw [hD2, hA.1, List.take_length]
      show _ = some (HO.lst ((ts.map (·.a)).map V.str))
      rw [List.map_map]
      rfl
  | flat k wr ns =>
    obtain ⟨a, rfl, ha⟩ := hp
    obtain ⟨n1, n2, _, _, _, hk⟩ := sh
    refine ⟨_, rfl, a, _, rfl, SqT.of ha, (by show 2 ≤ _ + 2; omega), fun p hp0 => ?_⟩
    have s2 := same_upd hp0 (.lst (ns.map V.str))
    have hl : upd H p (.lst (ns.map V.str)) p = some (.lst (ns.map V.str)) := upd_same
    refine ⟨_, _, rfl, _, _, rfl, _, _, rfl, rfl, ?_⟩
    refine ⟨_, rfl, rfl, _, rfl, ?_⟩
    rw [decide_eq_false (fun e => n1 (V.str.inj e))]
    refine iteF ?_
    refine ⟨_, rfl, rfl, _, rfl, ?_⟩
    rw [decide_eq_false (fun e => n2 (V.str.inj e))]
    refine iteF ?_
    refine ⟨_, rfl, 1, rfl, p, _, rfl, SqL.of hl, fun l hl0 => ?_⟩
    have e : cutV (ns.map V.str) (some 1) none = (ns.drop 1).map V.str := by
      cases ns with
      | nil => rfl
      | cons z zs =>
        show cutV (V.str z :: zs.map V.str) (some ((1 : Nat) : Int)) none = zs.map V.str
        unfold cutV
        rw [HT.sIx_none, HT.sIx_nat]
        simp
        exact List.take_of_length_le (by rw [List.length_map]; exact Nat.le_refl _)
    rw [e]
    exact q l _ (s2.trans (same_upd hl0 _)) (s2.free hl0) upd_same
theorem ok_leadsOfU {f fw : Addr} {fd dw : FuncData} (F : Fun K "leads_of" "leads_of" sLeadsOf f fd) (GW : Df P w K mg base 1 fw dw "wires_in" ["part"] (spStrsU (fun _ => True) endsP)) : FnOk P w K mg base CX0 2 f fd ["part"] (spStrsU notUse leadsP) := by
  refine F.ok scLeadsOf (fun vs H Q E h => ?_) (fun cdv A outer s H vs Q E hr h => ?_)
  · obtain ⟨x, p, rfl, _⟩ := h
    rfl
  obtain ⟨x, p, rfl, hp, sh, nu, q⟩ := h
  refine ⟨_, (pss_cons (ps_if (pt_cmpR op_eq (pe_ix ix_tup (pv 0) pe_int (fun _ _ => rfl)) pe_str (nomark _))
 (pss_one (ps_ret (pe_lc (own := [("_", 1), ("delay", 2), ("wire", 3)]) (g := (gTup K 3 (gCons (gName 1) (gCons (gName 2) (gCons (gName 3) gNil))))) rfl scLeadsOf.nd (pi_tup (pe_ix ix_tup (pv 0) pe_int (fun _ _ => rfl))) (blkOk_by (own := [("_", 1), ("delay", 2), ("wire", 3)]) (N := ["part", "_", "delay", "wire"]) (sc := defScope sLeadsOf) (by decide +kernel)) (fun _ _ _ _ _ => (pg_tup (n := 3) rfl (pgs_cons (pg_name (i := 1) scLeadsOf.nd rfl (Or.inl rfl) (Or.inr rfl)) (pgs_cons (pg_name (i := 2) scLeadsOf.nd rfl (Or.inl rfl) (Or.inr rfl)) (pgs_cons (pg_name (i := 3) scLeadsOf.nd rfl (Or.inl rfl) (Or.inr rfl)) pgs_nil))))) (fun _ _ _ _ _ => (pts_one (pt_cmpR op_eq (pv 2) pe_int (nomark _)))) (fun _ _ _ _ _ => (pv 3)))))
 pss_nil)
 (pss_one (ps_ret (pe_call GW.ok (hr.mono (by decide)) (by rfl) GW.m GW.kp GW.b .nil pass0 (pa_cons (pv 0) pa_nil))))), ?_⟩
  cases p with
  | use w p es => exact False.elim nu
  | mix wr ts =>
    have hp' := hp
    obtain ⟨a, b, us, rfl, ha, hb, hA⟩ := hp
    obtain ⟨hw, hl, ht⟩ := sh
    refine ⟨_, rfl, a, _, 0, _, rfl, rfl, SqT.of ha, rfl, rfl, _, rfl, iteT ?_⟩
    refine ⟨_, rfl, a, _, 2, _, rfl, rfl, SqT.of ha, rfl, ?_⟩
    refine ⟨b, rfl, ⟨_, SqT.of hb⟩, fun D hD => ?_⟩
    refine lc_tup (xs := us) (fun i H2 => Same H H2 ∧ H2 D = some (.lst (((ts.take i).filter fun t => decide (t.d = 0)).map fun t => V.str t.a))) ⟨same_upd hD _, upd_same⟩ (fun i H2 _ h => SqT.of (h.1 _ _ hb)) (fun i x H2 hx ⟨s4, hD2⟩ => ?_) (fun H2 ⟨s4, hD2⟩ => ?_)
    · have hi : i < us.length := (List.getElem?_eq_some_iff.mp hx).1
      obtain ⟨t, ht⟩ : ∃ t, ts[i]? = some t := ⟨ts[i]'(by rw [← hA.1]; exact hi), List.getElem?_eq_getElem _⟩
      obtain ⟨c, rfl, hc⟩ := (hA.2 i x t hx ht).tups (Same.tups s4)
      refine ⟨c, _, rfl, SqT.of hc, rfl, _, _, rfl, _, _, rfl, _, _, rfl, rfl, rfl, _, rfl, rfl, _, rfl, ?_⟩
      by_cases hd : t.d = 0
      · rw [show decide (V.int t.d = V.int 0) = true by simp [hd]]
        refine iteT ⟨_, rfl, _, hD2, ?_, fun e o he => ?_, ?_⟩
        · rw [List.length_map]
          exact small1000 (Nat.le_trans (List.length_filter_le _ _) (by rw [List.length_take]; omega))
        · rw [upd_ne (ne_of_none he hD)]
          exact s4 _ _ he
        · rw [upd_same, List.take_add_one, ht, List.filter_append, List.map_append]
          show _ = some (HO.lst (_ ++ List.map _ (List.filter _ [t])))
          rw [List.filter_cons_of_pos (by simpa using hd)]
          rfl
      · rw [show decide (V.int t.d = V.int 0) = false by simp [hd]]
        refine iteF ⟨s4, ?_⟩
        rw [hD2, List.take_add_one, ht, List.filter_append, List.map_append]
        show _ = some (HO.lst (_ ++ List.map _ (List.filter _ [t])))
        rw [List.filter_cons_of_neg (by simpa using hd)]
        show _ = some (HO.lst (_ ++ []))
        rw [List.append_nil]
    · refine q D H2 s4 hD ?_
      rw [hD2, hA.1, List.take_length]
      show _ = some (HO.lst (((ts.filter fun t => decide (t.d = 0)).map (·.a)).map V.str))
      rw [List.map_map]
      rfl
  | flat k wr ns =>
    have hp' := hp
    obtain ⟨a, rfl, ha⟩ := hp
    refine ⟨_, rfl, a, _, 0, _, rfl, rfl, SqT.of ha, atI_nat (j := 0) rfl, rfl, _, rfl, ?_⟩
    rw [decide_eq_false (fun e => sh.1 (V.str.inj e))]
    refine iteF ?_
    exact ⟨_, rfl, .ref a, .flat k wr ns, rfl, hp', sh, trivial, q⟩
end
end Un
namespace Un
open PySem L2 TL
section
variable {P : Program} {w : World} {K : PySem.W.Frag} {mg : Str → Option Value} {base : Heap}
open XV
/-- parts of whatever shape, in a list -/
structure PsU (H : Hp) (o : Addr) (us : List V) (ps : List Pt) : Prop where
  at_ : H o = some (.lst us)
  all : All2 (PtAt H) us ps
  ok : ∀ p ∈ ps, ShU p
  l : ps.length ≤ 100
theorem PsU.same {H H' : Hp} {o : Addr} {us : List V} {ps : List Pt} (h : PsU H o us ps) (s : Same H H') : PsU H' o us ps := ⟨s _ _ h.at_, h.all.mono fun _ _ z => z.tups (Same.tups s), h.ok, h.l⟩
theorem PsU.nth {H : Hp} {o : Addr} {us : List V} {ps : List Pt} {i : Nat} {x : V} (h : PsU H o us ps) (hx : us[i]? = some x) : ∃ p, ps[i]? = some p ∧ PtAt H x p ∧ ShU p := by
  have hi := (List.getElem?_eq_some_iff.mp hx).1
  obtain ⟨p, hp⟩ : ∃ p, ps[i]? = some p := ⟨ps[i]'(by rw [← h.all.1]; exact hi), List.getElem?_eq_getElem _⟩
  exact ⟨p, hp, h.all.2 i x p hx hp, h.ok p (List.mem_of_getElem? hp)⟩
def spCkWiresU (CD CU : Addr) : Sp := fun vs H Q E => ∃ (o u : Addr) (us : List V) (ps : List Pt) (os : List Str), vs = [.ref o, .ref u] ∧ PsU H o us ps ∧ H u = some (.lst (os.map V.str)) ∧ match wireFlt ps os with
  | none => ∀ H', Same H H' → Q .non H'
  | some f => FltE CD CU f H E
theorem ok_ckWiresU {f CD CU fD fk fw : Addr} {fd dD dk dw : FuncData} {gD : List Value → List Value → List Value} (F : Fun K "check_wires" "check_wires" sCkWires f fd) (XD : Xr P w K mg base CD 1 fD dD "DuplicateName" ["self", "name"] (spI1 CD "DuplicateName" "name") gD)
    (GK : DfX P w K mg base 3 fk dk "check_known" ["wires", "known"] (spCkKnownX CU)) (GW : Df P w K mg base 1 fw dw "wires_in" ["part"] (spStrsU (fun _ => True) endsP)) : FnOk P w K mg base (L2.CX P w) 4 f fd ["parts", "outs"] (spCkWiresU CD CU) := by
  refine F.okX scCkWires (fun vs H Q E h => ?_) (fun cdv A outer s H vs Q E hr h => ?_)
  · obtain ⟨o, u, us, ps, os, rfl, _⟩ := h
    rfl
  obtain ⟨o, u, us, ps, os, rfl, pa, hu, q⟩ := h
  refine ⟨_, (pss_cons (ps_set (i := 2) scCkWires.nd rfl (by first | exact Or.inl rfl | exact Or.inr rfl) pe_dnewK)
 (pss_cons (ps_for (passes_of rfl) rfl (pi_list (pv 0)) (pg_name (i := 3) scCkWires.nd rfl (by first | exact Or.inl rfl | exact Or.inr rfl))
 (pss_cons (ps_if (pt_cmp (pc_din (hu_of hr) (pe_ix ix_tup (pv 3) pe_int (fun _ _ => rfl)) (pv 2)))
 (pss_one (ps_raise rfl (takes_of rfl rfl rfl rfl) (ExR.pmk_exo rfl (pe_mkG XD.x (hr.mono (by decide)) (by rfl) XD.kb (pa_cons (pe_ix ix_tup (pv 3) pe_int (fun _ _ => rfl)) pa_nil)))))
 pss_nil)
 (pss_one (ps_dput (hu_of hr) (pv 2) (pe_ix ix_tup (pv 3) pe_int (fun _ _ => rfl)) pe_bl rfl))))
 (pss_cons (ps_for (passes_of rfl) rfl (pi_list (pv 0)) (pg_name (i := 3) scCkWires.nd rfl (by first | exact Or.inl rfl | exact Or.inr rfl))
 (pss_one (ps_expr (pe_callS GK.ok (hr.mono (by decide)) (by rfl) GK.m GK.kp GK.b (fun σ => passAt (takes_of rfl rfl rfl rfl) σ) (pa_cons (pe_call GW.ok (hr.mono (by decide)) (by rfl) GW.m GW.kp GW.b .nil pass0 (pa_cons (pv 3) pa_nil)) (pa_cons (pv 2) pa_nil))))))
 (pss_one (ps_expr (pe_callS GK.ok (hr.mono (by decide)) (by rfl) GK.m GK.kp GK.b (fun σ => passAt (takes_of rfl rfl rfl rfl) σ) (pa_cons (pv 1) (pa_cons (pv 2) pa_nil)))))))), ?_⟩
  intro d hd
  have s1 := same_upd hd (.dK [])
  have pl := pa.l
  refine ⟨.ref o, rfl, o, rfl, ⟨_, SqL.of (s1 _ _ pa.at_)⟩, ?_⟩
  refine for_list (xs := us) (fun i σ H2 => (∃ v3, σ = [some (.ref o), some (.ref u), some (.ref d), v3]) ∧ Same H H2 ∧ H2 d = some (.dK (marks ((wiresP ps).take i))) ∧ ∀ j y, j < i → (wiresP ps)[j]? = some y → y ∉ (wiresP ps).take j) ⟨⟨_, rfl⟩, s1, upd_same, fun j y hj => absurd hj (Nat.not_lt_zero _)⟩ (fun i σ H2 _ h => SqL.of (h.2.1 _ _ pa.at_)) ?_ ?_
  · rintro i x σ H2 hx ⟨⟨v3, rfl⟩, s2, hd2, hp2⟩
    obtain ⟨p, hp, pt, _⟩ := (pa.same s2).nth hx
    obtain ⟨a, r, rfl, ha⟩ := pt.two
    have hw : (wiresP ps)[i]? = some (Pw p) := by rw [List.getElem?_map, hp]; rfl
    refine ⟨_, rfl, a, _, 1, _, rfl, rfl, SqT.of ha, atI_nat (j := 1) rfl, _, rfl, d, _, rfl, DGet.k (k := Sum.inr (Pw p)) hd2, _, rfl, ?_⟩
    rw [marks_get]
    by_cases hn : Pw p ∈ (wiresP ps).take i
    · rw [if_pos hn]
      refine iteT ?_
      have e : dupOf [] (wiresP ps) = some (Pw p) := dup_at (i := i) (fun j y hj hy => hp2 j y hj hy) hw hn
      unfold wireFlt at q
      rw [e] at q
      exact ⟨_, rfl, a, _, 1, _, rfl, rfl, SqT.of ha, atI_nat (j := 1) rfl, rfl, rfl, (by decide), fun b hb => mk_raise1 XD.x.T rfl s2 hb (XkE.from q s2)⟩
    · rw [if_neg hn]
      refine iteF ?_
      have lt : (marks ((wiresP ps).take i)).length < sizeLine := by
        unfold marks
        rw [List.length_map]
        exact small1000 (Nat.le_trans (List.length_take_le _ _) (by
          have hi := (List.getElem?_eq_some_iff.mp hp).1
          omega))
      refine ⟨_, rfl, _, rfl, a, _, 1, _, rfl, rfl, SqT.of ha, atI_nat (j := 1) rfl, d, _, rfl, DPut.k (k := Sum.inr (Pw p)) hd2 lt, ?_⟩
      rw [marks_put hn]
      refine ⟨⟨_, rfl⟩, fun b ob hb => ?_, ?_, fun j y hj hy => ?_⟩
      · rw [upd_ne (ne_of_none hb hd)]
        exact s2 _ _ hb
      · rw [upd_same, List.take_add_one, hw]
        rfl
      · by_cases ej : j = i
        · rw [ej, hw] at hy
          cases hy
          rw [ej]
          exact hn
        · exact hp2 j y (by omega) hy
  · rintro σ H2 ⟨⟨v3, rfl⟩, s2, hd2, hp2⟩
    have lw : us.length = (wiresP ps).length := by rw [pa.all.1, List.length_map]
    rw [lw] at hd2 hp2
    rw [List.take_length] at hd2
    have hall : ∀ j y, (wiresP ps)[j]? = some y → y ∉ (wiresP ps).take j := fun j y hy => hp2 j y (List.getElem?_eq_some_iff.mp hy).1 hy
    have dn : dupOf [] (wiresP ps) = none := dup_none fun j y hy => hall j y hy
    unfold wireFlt at q
    rw [dn] at q
    refine ⟨.ref o, rfl, o, rfl, ⟨_, SqL.of (s2 _ _ pa.at_)⟩, ?_⟩
    refine for_list (xs := us) (fun i σ H3 => (∃ v3, σ = [some (.ref o), some (.ref u), some (.ref d), v3]) ∧ Same H2 H3 ∧ ∀ j p, j < i → ps[j]? = some p → unkIn (wiresP ps) (endsP p) = none) ⟨⟨_, rfl⟩, Same.refl _, fun j y hj => absurd hj (Nat.not_lt_zero _)⟩ (fun i σ H3 _ h => SqL.of (h.2.1 _ _ (s2 _ _ pa.at_))) ?_ ?_
    · rintro i x σ H3 hx ⟨⟨v3, rfl⟩, s3, hp3⟩
      obtain ⟨p, hp, pt, pp⟩ := (pa.same (s2.trans s3)).nth hx
      refine ⟨_, rfl, x, p, rfl, pt, pp, trivial, fun l H4 s4 hl hl4 => ?_⟩
      refine ⟨_, rfl, l, d, endsP p, wiresP ps, rfl, hl4, s4 _ _ (s3 _ _ hd2), ?_⟩
      cases e : unkIn (wiresP ps) (endsP p) with
      | some z =>
        have eu : unkOf (wiresP ps) ps = some z := unkOf_at (fun j q hj hq => hp3 j q hj hq) hp e
        rw [eu] at q
        exact XkE.from q ((s2.trans s3).trans s4)
      | none =>
        refine ⟨⟨_, rfl⟩, s3.trans s4, fun j q hj hq => ?_⟩
        by_cases ej : j = i
        · rw [ej, hp] at hq
          cases hq
          exact e
        · exact hp3 j q (by omega) hq
    · rintro σ H3 ⟨⟨v3, rfl⟩, s3, hp3⟩
      rw [pa.all.1] at hp3
      have un : unkOf (wiresP ps) ps = none := unkOf_none fun j q hq => hp3 j q (List.getElem?_eq_some_iff.mp hq).1 hq
      rw [un] at q
      refine ⟨_, rfl, _, rfl, u, d, os, wiresP ps, rfl, s3 _ _ (s2 _ _ hu), s3 _ _ hd2, ?_⟩
      cases e : unkIn (wiresP ps) os with
      | none =>
        rw [e] at q
        exact q _ (s2.trans s3)
      | some z =>
        rw [e] at q
        exact XkE.from q (s2.trans s3)
/-- a list of texts told of a field's parts -/
def spStrOfU (C : Addr) (fld : Str) (f : List Pt → List Str) : Sp := fun vs H Q _ => ∃ (a dx p : Addr) (fs : List (Str × V)) (us : List V) (ps : List Pt), vs = [.ref a] ∧ H a = some (.ins C dx fs) ∧ fs.lookup fld = some (V.ref p) ∧ PsU H p us ps ∧ ∀ (l : Addr) (H' : Hp), Same H H' → H l = none → H' l = some (.lst ((f ps).map V.str)) → Q (.ref l) H'
theorem ok_n_sourcesU {f C : Addr} {fd : FuncData} (F : Fun K "sources" "Net.sources" sN_sources f fd) (C' : NetC K C) : FnOk P w K mg base CX0 1 f fd ["self"] (spStrOfU C "_parts" sourcesP) := by
  refine F.ok scN_sources (fun vs H Q E h => ?_) (fun cdv A outer s H vs Q E hr h => ?_)
  · obtain ⟨a, dx, p, fs, us, ps, rfl, _⟩ := h
    rfl
  obtain ⟨a, dx, p, fs, us, ps, rfl, ha, hf, pa, q⟩ := h
  have pl := pa.l
  refine ⟨_, (pss_one (ps_ret (pe_lc (own := [("part", 1)]) (g := (gName 1)) rfl scN_sources.nd (pi_list (pe_fld (pv 0) rfl)) (blkOk_by (own := [("part", 1)]) (N := ["self", "part"]) (sc := defScope sN_sources) (by decide +kernel)) (fun _ _ _ _ _ => (pg_name (i := 1) scN_sources.nd rfl (Or.inl rfl) (Or.inr rfl))) (fun _ _ _ _ _ => (pts_one (pt_cmpR op_eq (pe_ix (ixT (K := K) rfl) (pv 1) pe_int (fun _ _ => rfl)) pe_str (nomark _)))) (fun _ _ _ _ _ => (pe_ix (ixT (K := K) rfl) (pv 1) pe_int (fun _ _ => rfl)))))), ?_⟩
  refine ⟨_, rfl, a, C, dx, fs, _, rfl, ha, C'.cl, C'.p, hf, p, rfl, ⟨_, SqL.of pa.at_⟩, fun l hl => ?_⟩
  refine lc_list (xs := us) (fun i H2 => Same H H2 ∧ H2 l = some (.lst ((sourcesP (ps.take i)).map V.str))) ⟨same_upd hl _, upd_same⟩ (fun i H2 _ h => SqL.of (h.1 _ _ pa.at_)) (fun i x H2 hx ⟨s2, hl2⟩ => ?_) (fun H2 ⟨s2, hl2⟩ => ?_)
  · obtain ⟨pp, hp, pt, _⟩ := (pa.same s2).nth hx
    obtain ⟨b, r, rfl, hb⟩ := pt.two
    have hi := (List.getElem?_eq_some_iff.mp hp).1
    have e : ps.take (i + 1) = ps.take i ++ [pp] := by rw [List.take_add_one, hp]; rfl
    refine ⟨rfl, _, rfl, b, _, 0, _, rfl, rfl, SqT.of hb, atI_nat (j := 0) rfl, rfl, _, rfl, ?_⟩
    by_cases hk : kindP pp = "source"
    · rw [decide_eq_true (by rw [hk])]
      refine iteT ⟨_, rfl, b, _, 1, _, rfl, rfl, SqT.of hb, atI_nat (j := 1) rfl, _, hl2, ?_, fun c oc hc => ?_, ?_⟩
      · unfold sourcesP
        rw [List.length_map, List.length_map]
        exact small1000 (Nat.le_trans (Nat.le_trans (List.length_filter_le _ _) (List.length_take_le _ _)) (by omega))
      · rw [upd_ne (ne_of_none hc hl)]
        exact s2 _ _ hc
      · rw [upd_same, e]
        unfold sourcesP
        rw [List.filter_append, List.filter_cons_of_pos (by simpa using hk), List.map_append, List.map_append]
        rfl
    · rw [decide_eq_false (fun z => hk (V.str.inj z))]
      refine iteF ⟨s2, ?_⟩
      rw [hl2, e]
      unfold sourcesP
      rw [List.filter_append, List.filter_cons_of_neg (by simpa using hk)]
      simp
  · rw [pa.all.1, List.take_length] at hl2
    exact q l H2 s2 hl hl2
/-- a net, told by its parts, its plain parts, its outputs -/
structure ND where
  ps : List Pt
  qs : List Pt
  os : List Str
def NetU (H : Hp) (C a : Addr) (D : ND) : Prop := ∃ dx p o d m us vs, H a = some (.ins C dx (netFs p o d m)) ∧ PsU H p us D.ps ∧ H o = some (.lst (D.os.map V.str)) ∧ PsU H m vs D.qs ∧ (∀ q ∈ D.qs, notUse q)
theorem NetU.same {H H' : Hp} {C a : Addr} {D : ND} (h : NetU H C a D) (s : Same H H') : NetU H' C a D := by
  obtain ⟨dx, p, o, d, m, us, vs, h1, h2, h3, h4, h5⟩ := h
  exact ⟨dx, p, o, d, m, us, vs, s _ _ h1, h2.same s, s _ _ h3, h4.same s, h5⟩
/-- pieces: names to nets -/
def PcAt (H : Hp) (C d : Addr) (lib : Str → Option ND) : Prop := ∃ kvs : List (Key × V), H d = some (.dK kvs) ∧ ∀ z, match lib z with
  | none => valV kvs (Sum.inr z) = none
  | some D => ∃ a, valV kvs (Sum.inr z) = some (.ref a) ∧ NetU H C a D
theorem PcAt.same {H H' : Hp} {C d : Addr} {lib : Str → Option ND} (h : PcAt H C d lib) (s : Same H H') : PcAt H' C d lib := by
  obtain ⟨kvs, h1, h2⟩ := h
  refine ⟨kvs, s _ _ h1, fun z => ?_⟩
  have := h2 z
  cases e : lib z with
  | none =>
    rw [e] at this
    exact this
  | some D =>
    rw [e] at this
    obtain ⟨a, e1, e2⟩ := this
    exact ⟨a, e1, e2.same s⟩
inductive FltU where
  | piece (z : Str)
  | use (i : Nat)
def useFlt (lib : Str → Option ND) (i : Nat) : Pt → Option FltU
  | .use _ p es => match lib p with
    | none => some (.piece p)
    | some D => if (sourcesP D.ps).length = es.length then none else some (.use i)
  | _ => none
theorem useFlt_none {lib : Str → Option ND} {i : Nat} {w p : Str} {es : List Str} (h : lib p = none) : useFlt lib i (.use w p es) = some (.piece p) := by
  simp only [useFlt, h]
theorem useFlt_some {lib : Str → Option ND} {i : Nat} {w p : Str} {es : List Str} {D : ND} (h : lib p = some D) : useFlt lib i (.use w p es) = if (sourcesP D.ps).length = es.length then none else some (.use i) := by
  simp only [useFlt, h]
def FltUE (CP CI : Addr) (f : FltU) (H : Hp) (E : XK) : Prop := match f with
  | .piece z => XkE CP [("piece", .str z), ("code", .str "UnknownPiece")] H E
  | .use i => XkE CI [("at", .int (i : Nat)), ("code", .str "InvalidUse")] H E
def spCkUsesU (C CP CI : Addr) : Sp := fun vs H Q E => ∃ (o d : Addr) (us : List V) (ps : List Pt) (lib : Str → Option ND), vs = [.ref o, .ref d] ∧ PsU H o us ps ∧ PcAt H C d lib ∧ (∀ i p f, ps[i]? = some p → (∀ j q, j < i → ps[j]? = some q → useFlt lib j q = none) → useFlt lib i p = some f → FltUE CP CI f H E) ∧ ((∀ j q, ps[j]? = some q → useFlt lib j q = none) → ∀ H', Same H H' → Q .non H')
theorem ok_ckUsesU {f C CP CI fP fI fs : Addr} {fd dP dI ds : FuncData} {gP gI : List Value → List Value → List Value} (F : Fun K "check_uses" "check_uses" sCkUses f fd) (C' : NetC K C) (T : NetTxt K w mg) (MS : Mt P w K mg base C 1 fs ds "sources" ["self"] (spStrOfU C "_parts" sourcesP)) (XP : Xr P w K mg base CP 1 fP dP "UnknownPiece" ["self", "piece"] (spI1 CP "UnknownPiece" "piece") gP) (XI : Xr P w K mg base CI 1 fI dI "InvalidUse" ["self", "at"] (spI1 CI "InvalidUse" "at") gI) : FnOk P w K mg base (L2.CX P w) 3 f fd ["parts", "pieces"] (spCkUsesU C CP CI) := by
  refine F.okX scCkUses (fun vs H Q E h => ?_) (fun cdv A outer s H vs Q E hr h => ?_)
  · obtain ⟨o, d, us, ps, lib, rfl, _⟩ := h
    rfl
  obtain ⟨o, d, us, ps, lib, rfl, pa, pc, bad, q⟩ := h
  refine ⟨_, (pss_one (ps_for (passes_of rfl) rfl (pi_enum (by rfl) T.enum (pa_cons (pv 0) pa_nil)) (pg_tup (by rfl) (pgs_cons (pg_name (i := 2) scCkUses.nd rfl (by first | exact Or.inl rfl | exact Or.inr rfl)) (pgs_cons (pg_name (i := 3) scCkUses.nd rfl (by first | exact Or.inl rfl | exact Or.inr rfl)) pgs_nil)))
 (pss_one (ps_if (pt_cmpR op_eq (pe_ix (ixT (K := K) rfl) (pv 3) pe_int (fun _ _ => rfl)) pe_str (nomark _))
 (pss_cons (ps_set (i := 4) scCkUses.nd rfl (by first | exact Or.inl rfl | exact Or.inr rfl) (pe_ix (ixT (K := K) rfl) (pv 3) pe_int (fun _ _ => rfl)))
 (pss_cons (ps_if (pt_cmp (pc_dnotin (hu_of hr) (pv 4) (pv 1)))
 (pss_one (ps_raise rfl (takes_of rfl rfl rfl rfl) (ExR.pmk_exo rfl (pe_mkG XP.x (hr.mono (by decide)) (by rfl) XP.kb (pa_cons (pv 4) pa_nil)))))
 pss_nil)
 (pss_one (ps_if (pt_cmpR op_ne (pe_callB call_len_seq (by rfl) T.len PySem.boot_len (pa_cons (pe_meth0 (pe_dget (hu_of hr) (pv 1) (pv 4) (fun _ _ => rfl)) C'.cl MS.mt MS.ok (hr.mono (by decide)) MS.b .nil pass0) pa_nil)) (pe_callB call_len_seq (by rfl) T.len PySem.boot_len (pa_cons (pe_ix (ixT (K := K) rfl) (pv 3) pe_int (fun _ _ => rfl)) pa_nil)) (nomark _))
 (pss_one (ps_raise rfl (takes_of rfl rfl rfl rfl) (ExR.pmk_exo rfl (pe_mkG XI.x (hr.mono (by decide)) (by rfl) XI.kb (pa_cons (pv 2) pa_nil)))))
 pss_nil))))
 pss_nil)))), ?_⟩
  refine ⟨_, rfl, o, _, rfl, SqL.of pa.at_, ?_⟩
  refine for_it walk_enum (fun i σ H2 => (∃ v2 v3 v4, σ = [some (.ref o), some (.ref d), v2, v3, v4]) ∧ Same H H2 ∧ ∀ (j : Nat) p, (j : Int) < i → ps[j]? = some p → useFlt lib j p = none) ⟨⟨_, _, _, rfl⟩, Same.refl H, fun j p hj => absurd hj (by omega)⟩ (fun i σ H2 _ h => SqL.of (h.2.1 _ _ pa.at_)) ?_ ?_
  · rintro i v σ H2 H3 hi ⟨⟨v2, v3, v4, rfl⟩, s2, hp0⟩ ⟨t, x, z, rfl, ht, rfl, hx, hz⟩
    cases hx
    have hz : us[i]? = some z := hz
    have s3 := s2.trans (same_upd ht (.tup [.int i, z]))
    obtain ⟨p, hp, pt, pp⟩ := (pa.same s3).nth hz
    have next : ∀ {H4 : Hp}, Same H H4 → useFlt lib i p = none → Same H H4 ∧ ∀ (j : Nat) p, (j : Int) < i + 1 → ps[j]? = some p → useFlt lib j p = none := fun s4 e => ⟨s4, fun j q' hj hq => by
      by_cases ej : j = i
      · rw [ej, hp] at hq
        cases hq
        rw [ej]
        exact e
      · exact hp0 j q' (by omega) hq⟩
    obtain ⟨a, r, rfl, ha⟩ := pt.two
    refine ⟨t, _, rfl, SqT.of upd_same, rfl, _, _, rfl, _, _, rfl, rfl, ?_⟩
    refine ⟨_, rfl, a, _, 0, _, rfl, rfl, SqT.of ha, atI_nat (j := 0) rfl, rfl, _, rfl, ?_⟩
    cases p with
    | flat k w es =>
      rw [show decide (V.str (kindP (Pt.flat k w es)) = V.str "use") = false from decide_eq_false (fun e => pp.2.1 (V.str.inj e))]
      exact iteF ⟨⟨_, _, _, rfl⟩, next s3 rfl⟩
    | mix w ts =>
      rw [show decide (V.str (kindP (Pt.mix w ts)) = V.str "use") = false from decide_eq_false (fun e => absurd (V.str.inj e) (by show ¬ ("mix" : Str) = "use"; decide))]
      exact iteF ⟨⟨_, _, _, rfl⟩, next s3 rfl⟩
    | use w pn es =>
      refine iteT ?_
      obtain ⟨a', b, e', ha', hb⟩ := pt
      cases e'
      rw [ha'] at ha
      cases ha
      obtain ⟨kvs, hd, hlib⟩ := pc.same s3
      have hl := hlib pn
      refine ⟨_, rfl, a, _, 2, _, rfl, rfl, SqT.of ha', atI_nat (j := 2) rfl, ?_⟩
      refine ⟨_, rfl, _, rfl, d, _, rfl, DGet.k (k := Sum.inr pn) hd, ?_⟩
      refine ⟨_, rfl, ?_⟩
      cases e : lib pn with
      | none =>
        rw [e] at hl
        have hl : valV kvs (Sum.inr pn) = none := hl
        rw [hl]
        refine iteT ?_
        have fl := useFlt_none (i := i) (w := w) (es := es) e
        exact ⟨_, rfl, rfl, rfl, (by decide), fun b hb => mk_raise1 XP.x.T rfl s3 hb (XkE.from (bad i _ _ hp (fun j q hj hq => hp0 j q (by omega) hq) fl) s3)⟩
      | some D =>
        rw [e] at hl
        obtain ⟨n, hv, nu⟩ := hl
        rw [hv]
        refine iteF ?_
        obtain ⟨dx, fp, fo, fd', fm, pus, pvs, hn, hps, _⟩ := nu
        refine ⟨_, rfl, _, rfl, d, .ref n, rfl, by have := DGet.k (k := Sum.inr pn) hd; rw [hv] at this; exact this, n, dx, _, rfl, hn, rfl, n, dx, fp, _, pus, D.ps, rfl, hn, rfl, hps, fun l H4 s4 hl0 hl4 => ?_⟩
        have fl := useFlt_some (i := i) (w := w) (es := es) e
        refine ⟨l, _, rfl, .inl (SqL.of hl4), _, rfl, a, _, 3, _, rfl, rfl, SqT.of (s4 _ _ ha'), atI_nat (j := 3) rfl, b, _, rfl, .inr (SqT.of (s4 _ _ hb)), rfl, _, rfl, ?_⟩
        rw [List.length_map, List.length_map]
        by_cases hlen : (sourcesP D.ps).length = es.length
        · rw [show (!decide (V.int ((sourcesP D.ps).length : Nat) = V.int (es.length : Nat))) = false by rw [hlen]; simp]
          rw [if_pos hlen] at fl
          exact iteF ⟨⟨_, _, _, rfl⟩, next (s3.trans s4) fl⟩
        · rw [show (!decide (V.int ((sourcesP D.ps).length : Nat) = V.int (es.length : Nat))) = true by rw [decide_eq_false fun z => hlen (by have := V.int.inj z; omega)]; rfl]
          rw [if_neg hlen] at fl
          refine iteT ?_
          exact ⟨_, rfl, rfl, rfl, (by decide), fun b hb => mk_raise1 XI.x.T rfl (s3.trans s4) hb (XkE.from (bad i _ _ hp (fun j q hj hq => hp0 j q (by omega) hq) fl) (s3.trans s4))⟩
  · rintro σ H2 ⟨⟨v2, v3, v4, rfl⟩, s2, hp0⟩
    exact q (fun j p hp => hp0 j p (by have := (List.getElem?_eq_some_iff.mp hp).1; rw [pa.all.1]; omega) hp) H2 s2
end
end Un
namespace Un
open PySem L2 TL
section
variable {P : Program} {w : World} {K : PySem.W.Frag} {mg : Str → Option Value} {base : Heap}
/-! ### parts with other names -/
def renP (nm : Str → Str) : Pt → Pt
  | .flat k w es => .flat k (nm w) (es.take 1 ++ (es.drop 1).map nm)
  | .mix w ts => .mix (nm w) (ts.map fun t => ⟨t.n, t.d, nm t.a⟩)
  | .use w p es => .use w p es
/-- a table of names -/
def NmsAt (H : Hp) (d : Addr) (nm : Str → Str) (ks : List Str) : Prop := ∃ kvs : List (Key × V), H d = some (.dK kvs) ∧ ∀ z ∈ ks, valV kvs (Sum.inr z) = some (.str (nm z))
theorem NmsAt.same {H H' : Hp} {d : Addr} {nm : Str → Str} {ks : List Str} (h : NmsAt H d nm ks) (s : Same H H') : NmsAt H' d nm ks := by
  obtain ⟨kvs, h1, h2⟩ := h
  exact ⟨kvs, s _ _ h1, h2⟩
theorem NmsAt.get {H : Hp} {d : Addr} {nm : Str → Str} {ks : List Str} {z : Str} (h : NmsAt H d nm ks) (hz : z ∈ ks) : DGet H d (.str z) (some (.str (nm z))) := by
  obtain ⟨kvs, h1, h2⟩ := h
  have := DGet.k (k := Sum.inr z) h1
  rw [h2 z hz] at this
  exact this
abbrev sRenamed : Stmt := top 45
def spRen : Sp := fun vs H Q _ => ∃ (x : V) (d : Addr) (p : Pt) (nm : Str → Str) (ks : List Str), vs = [x, .ref d] ∧ PtAt H x p ∧ ShU p ∧ notUse p ∧ ¬ kindP p = "source" ∧ NmsAt H d nm ks ∧ Pw p ∈ ks ∧ (∀ z ∈ endsP p, z ∈ ks) ∧ ∀ (y : V) (H' : Hp), Same H H' → PtAt H' y (renP nm p) → Q y H'
theorem scRenamed : FnScope ["part", "names", "kind", "wire", "items", "factor", "delay", "end"] ["part", "names"] (defScope sRenamed) := ⟨rfl, rfl, rfl, by decide +kernel, rfl, by decide +kernel, by decide +kernel⟩
theorem ok_renamed {f : Addr} {fd : FuncData} (F : Fun K "renamed" "renamed" sRenamed f fd) (mtup : mg "tuple" = none) : FnOk P w K mg base CX0 1 f fd ["part", "names"] spRen := by
  refine F.ok scRenamed (fun vs H Q E h => ?_) (fun cdv A outer s H vs Q E hr h => ?_)
  · obtain ⟨x, d, p, nm, ks, rfl, _⟩ := h
    rfl
  obtain ⟨x, d, p, nm, ks, rfl, hp, sh, nu, ns, hd, hw, he, q⟩ := h
  refine ⟨_, (pss_cons (ps_asg (pv 0) (pg_star (n := 2) rfl (pgs_cons (pg_name (i := 2) scRenamed.nd rfl (by first | exact Or.inl rfl | exact Or.inr rfl)) (pgs_cons (pg_name (i := 3) scRenamed.nd rfl (by first | exact Or.inl rfl | exact Or.inr rfl)) (pgs_star (pg_name (i := 4) scRenamed.nd rfl (by first | exact Or.inl rfl | exact Or.inr rfl)))))))
 (pss_cons (ps_if (pt_cmpR op_eq (pv 2) pe_str (nomark _))
 (pss_one (ps_ret (pe_tup (pa_cons (pv 2) (pa_cons (pe_dget (hu_of hr) (pv 1) (pv 3) (fun _ _ => rfl)) (pa_cons (pe_callTy call_tuple_of (by rfl) mtup (by decide +kernel) (pa_cons (pe_lc (own := [("factor", 5), ("delay", 6), ("end", 7)]) (g := (gTup K 3 (gCons (gName 5) (gCons (gName 6) (gCons (gName 7) gNil))))) rfl scRenamed.nd (pi_tup (pe_ix ix_list (pv 4) pe_int (fun _ _ => rfl))) (blkOk_by (own := [("factor", 5), ("delay", 6), ("end", 7)]) (N := ["part", "names", "kind", "wire", "items", "factor", "delay", "end"]) (sc := defScope sRenamed) (by decide +kernel)) (fun _ _ _ _ _ => (pg_tup (n := 3) rfl (pgs_cons (pg_name (i := 5) scRenamed.nd rfl (Or.inl rfl) (Or.inr rfl)) (pgs_cons (pg_name (i := 6) scRenamed.nd rfl (Or.inl rfl) (Or.inr rfl)) (pgs_cons (pg_name (i := 7) scRenamed.nd rfl (Or.inl rfl) (Or.inr rfl)) pgs_nil))))) (fun _ _ _ _ _ => pts_nil) (fun _ _ _ _ _ => (pe_tup (pa_cons (pv 5) (pa_cons (pv 6) (pa_cons (pe_dget (hu_of hr) (pv 1) (pv 7) (fun _ _ => rfl)) pa_nil)))))) pa_nil)) pa_nil))))))
 pss_nil)
 (pss_one (ps_ret (pe_tup (pa_cons (pv 2) (pa_cons (pe_dget (hu_of hr) (pv 1) (pv 3) (fun _ _ => rfl)) (pa_cons (pe_ix ix_list (pv 4) pe_int (fun _ _ => rfl)) (StX.pa_star (pe_lc (own := [("end", 7)]) (g := (gName 7)) rfl scRenamed.nd (pi_list (pe_slice sl_list (pv 4) (po_some pe_int) po_none)) (blkOk_by (own := [("end", 7)]) (N := ["part", "names", "kind", "wire", "items", "factor", "delay", "end"]) (sc := defScope sRenamed) (by decide +kernel)) (fun _ _ _ _ _ => (pg_name (i := 7) scRenamed.nd rfl (Or.inl rfl) (Or.inr rfl))) (fun _ _ _ _ _ => pts_nil) (fun _ _ _ _ _ => (pe_dget (hu_of hr) (pv 1) (pv 7) (fun _ _ => rfl)))) pa_nil))))))))), ?_⟩
  cases p with
  | use w p es => exact False.elim nu
  | mix wr ts =>
    obtain ⟨a, b, us, rfl, ha, hb, hA⟩ := hp
    obtain ⟨_, hl, _⟩ := sh
    refine ⟨_, rfl, a, _, rfl, SqT.of ha, (by show 2 ≤ 3; decide), fun p hp0 => ?_⟩
    have s2 := same_upd hp0 (.lst [.ref b])
    have hl2 : upd H p (.lst [.ref b]) p = some (.lst [.ref b]) := upd_same
    have hd1 := hd.same s2
    have hb1 := s2 _ _ hb
    refine ⟨_, _, rfl, _, _, rfl, _, _, rfl, rfl, ?_⟩
    refine ⟨_, rfl, rfl, _, rfl, iteT ?_⟩
    refine ⟨_, rfl, _, rfl, _, rfl, d, _, rfl, hd1.get hw, ?_⟩
    refine ⟨_, rfl, p, [.ref b], 0, .ref b, rfl, rfl, SqL.of hl2, rfl, ?_⟩
    refine ⟨b, rfl, ⟨_, SqT.of hb1⟩, fun D hD => ?_⟩
    refine lc_tup (xs := us) (fun i H2 => Same (upd H p (.lst [.ref b])) H2 ∧ ∃ vs, H2 D = some (.lst vs) ∧ All2 (TmAt H2) vs ((ts.take i).map fun t => (⟨t.n, t.d, nm t.a⟩ : Tm))) ⟨same_upd hD _, [], upd_same, .nil⟩ (fun i H2 _ h => SqT.of (h.1 _ _ hb1)) (fun i x H2 hx ⟨s4, vs, hD2, hV⟩ => ?_) (fun H2 ⟨s4, vs, hD2, hV⟩ => ?_)
    · have hi : i < us.length := (List.getElem?_eq_some_iff.mp hx).1
      obtain ⟨t, ht⟩ : ∃ t, ts[i]? = some t := ⟨ts[i]'(by rw [← hA.1]; exact hi), List.getElem?_eq_getElem _⟩
      obtain ⟨c, rfl, hc⟩ := (hA.2 i x t hx ht).tups (Same.tups (s2.trans s4))
      have hte : t.a ∈ ks := he t.a (List.mem_map.mpr ⟨t, List.mem_of_getElem? ht, rfl⟩)
      refine ⟨c, _, rfl, SqT.of hc, rfl, _, _, rfl, _, _, rfl, _, _, rfl, rfl, rfl, ?_⟩
      refine ⟨_, rfl, _, rfl, _, rfl, _, rfl, d, _, rfl, (hd1.same s4).get hte, (by show 3 ≤ sizeLine; decide), fun u hu => ?_⟩
      have s5 := same_upd hu (.tup [.int t.n, .int t.d, .str (nm t.a)])
      refine ⟨vs, s5 _ _ hD2, ?_, fun e o ho => ?_, vs ++ [.ref u], upd_same, ?_⟩
      · rw [hV.1, List.length_map, List.length_take]
        exact small1000 (by omega)
      · rw [upd_ne (ne_of_none ho hD)]
        exact s5 _ _ (s4 _ _ ho)
      · have tk : ∀ e xs, H2 e = some (.tup xs) → upd (upd H2 u (.tup [.int t.n, .int t.d, .str (nm t.a)])) D (.lst (vs ++ [.ref u])) e = some (.tup xs) := fun e xs he' => by
          rw [upd_ne (ne_of he' hD2 fun z => nomatch z)]
          exact s5 _ _ he'
        rw [List.take_add_one, ht, List.map_append]
        refine (hV.mono fun _ _ z => z.tups tk).snoc ⟨u, rfl, ?_⟩
        rw [upd_ne (ne_of_none hD2 hu).symm]
        exact upd_same
    · rw [hA.1, List.take_length] at hV
      refine ⟨D, vs, rfl, .inl ⟨SqL.of hD2, fun t2 ht2 => ⟨(by show 3 ≤ sizeLine; decide), fun t3 ht3 => ?_⟩⟩⟩
      have s5 := same_upd ht2 (.tup vs)
      have s6 := same_upd ht3 (.tup [.str "mix", .str (nm wr), .ref t2])
      exact q (.ref t3) _ (((s2.trans s4).trans s5).trans s6) ⟨t3, t2, vs, rfl, upd_same, s6 _ _ upd_same, hV.mono fun _ _ z => z.tups (Same.tups (s5.trans s6))⟩
  | flat k wr es =>
    obtain ⟨a, rfl, ha⟩ := hp
    obtain ⟨n1, n2, _, hl, _, hk⟩ := sh
    obtain ⟨k4, f0, e0, r0, rfl⟩ : k ∈ kinds4 ∧ ∃ f e r, es = f :: e :: r := hk.elim (fun h => absurd h.1 ns) id
    refine ⟨_, rfl, a, _, rfl, SqT.of ha, (by show 2 ≤ _ + 2; omega), fun p hp0 => ?_⟩
    have s2 := same_upd hp0 (.lst ((f0 :: e0 :: r0).map V.str))
    have hl2 : upd H p (.lst ((f0 :: e0 :: r0).map V.str)) p = some (.lst ((f0 :: e0 :: r0).map V.str)) := upd_same
    have hd1 := hd.same s2
    refine ⟨_, _, rfl, _, _, rfl, _, _, rfl, rfl, ?_⟩
    refine ⟨_, rfl, rfl, _, rfl, ?_⟩
    rw [decide_eq_false (fun e => n1 (V.str.inj e))]
    refine iteF ?_
    refine ⟨_, rfl, _, rfl, _, rfl, d, _, rfl, hd1.get hw, ?_⟩
    refine ⟨_, rfl, p, (f0 :: e0 :: r0).map V.str, 0, .str f0, rfl, rfl, SqL.of hl2, atI_nat (j := 0) rfl, ?_⟩
    refine ⟨_, rfl, 1, rfl, p, _, rfl, SqL.of hl2, fun l hl0 => ?_⟩
    rw [show cutV ((f0 :: e0 :: r0).map V.str) (some 1) none = (e0 :: r0).map V.str from by
      show cutV (V.str f0 :: (e0 :: r0).map V.str) (some ((1 : Nat) : Int)) none = (e0 :: r0).map V.str
      unfold cutV
      rw [HT.sIx_none, HT.sIx_nat]
      simp
      exact List.take_of_length_le (by rw [List.length_map]; exact Nat.le_refl _)]
    have s3 := same_upd hl0 (.lst ((e0 :: r0).map V.str))
    have hl3 : upd (upd H p (.lst ((f0 :: e0 :: r0).map V.str))) l (.lst ((e0 :: r0).map V.str)) l = some (.lst ((e0 :: r0).map V.str)) := upd_same
    have hd3 := hd1.same s3
    have s03 := s2.trans s3
    refine ⟨l, rfl, ⟨_, SqL.of hl3⟩, fun D hD => ?_⟩
    refine lc_list (xs := (e0 :: r0).map V.str) (fun i H2 => Same (upd (upd H p (.lst ((f0 :: e0 :: r0).map V.str))) l (.lst ((e0 :: r0).map V.str))) H2 ∧ H2 D = some (.lst ((((e0 :: r0).take i).map nm).map V.str))) ⟨same_upd hD _, upd_same⟩ (fun i H2 _ h => SqL.of (h.1 _ _ hl3)) (fun i x H2 hx ⟨s4, hD2⟩ => ?_) (fun H2 ⟨s4, hD2⟩ => ?_)
    · rw [List.getElem?_map] at hx
      cases ez : (e0 :: r0)[i]? with
      | none => rw [ez] at hx; cases hx
      | some z =>
        rw [ez] at hx
        cases hx
        have hzk : z ∈ ks := he z (List.mem_of_getElem? ez)
        have hi := (List.getElem?_eq_some_iff.mp ez).1
        refine ⟨rfl, _, rfl, _, rfl, d, _, rfl, (hd3.same s4).get hzk, _, hD2, ?_, fun e o ho => ?_, ?_⟩
        · rw [List.length_map, List.length_map, List.length_take]
          exact small1000 (by have := hl; rw [List.length_cons] at this; omega)
        · rw [upd_ne (ne_of_none ho hD)]
          exact s4 _ _ ho
        · rw [upd_same, List.take_add_one, ez, List.map_append, List.map_append]
          rfl
    · rw [List.length_map, List.take_length] at hD2
      refine ⟨D, _, rfl, .inr (SqL.of hD2), (by
        show ([V.str k, V.str (nm wr), V.str f0] ++ (((e0 :: r0).map nm).map V.str ++ [])).length ≤ sizeLine
        rw [List.length_append, List.append_nil, List.length_map, List.length_map]
        exact Nat.le_trans (show 3 + _ ≤ 1000 by have := hl; rw [List.length_cons] at this; omega) (by decide)), fun t3 ht3 => ?_⟩
      refine q (.ref t3) _ ((s03.trans s4).trans (same_upd ht3 _)) ⟨t3, rfl, ?_⟩
      rw [upd_same]
      show some (HO.tup ([V.str k, V.str (nm wr), V.str f0] ++ (((e0 :: r0).map nm).map V.str ++ []))) = _
      rw [List.append_nil]
      rfl
end
end Un
/-! ### zip of a list and a tuple of one length -/
namespace ZipM
open PySem L2 TL
/-- the list at a beside the tuple at b -/
def ItzM (K : PySem.W.Frag) (a b : Addr) : It where
  go := fun i H => ∃ (xs ys : List V) (x y : V), SqL K H a xs ∧ SqT K H b ys ∧ xs[i]? = some x ∧ ys[i]? = some y
  yld := fun i H v H' => ∃ T x y, v = .ref T ∧ H T = none ∧ H' = upd H T (.tup [x, y]) ∧ (∀ xs, SqL K H a xs → xs[i]? = some x) ∧ ∀ ys, SqT K H b ys → ys[i]? = some y
  stop := fun i H => ∃ xs ys : List V, SqL K H a xs ∧ SqT K H b ys ∧ xs.length = i ∧ ys.length = i
theorem plain_list {h : Heap} {a : Addr} {its : Array Value} (p : PlainL h a its) : h.IsList a its := by
  obtain ⟨o, n, h1, h2, _, h4⟩ := p
  exact ⟨o, h1, h2, n, h4⟩
theorem turn_zipM {P : Program} {w : World} {K : PySem.W.Frag} {elts : List Expr} {kk : Nat} {tpos : Pos} {a b z TI TO i1 i2 : Addr} (sep : ZipSep2 z TI TO i1 i2 [i1, a] [i2, b]) (na : a ≠ i1) (nb : b ≠ i2) :
    Turn P w K (.Tuple elts kk tpos) (ItzM K a b) [z, TI, TO, i1, i2] z (fun i h => IsZip h z TI TO .none ∧ IsTupOf2 h TI (.ref i1) (.ref i2) ∧ (∃ x y, IsTupOf2 h TO x y) ∧ h.IsListIter i1 a i ∧ h.IsTupleIter i2 b i) where
  mem := List.mem_cons_self ..
  obj := fun i h st c hc => by
    obtain ⟨hz, hI, ⟨x, y, hO⟩, ⟨o1, h1, _, d1⟩, ⟨o2, h2, _, d2⟩⟩ := st
    simp only [List.mem_cons, List.not_mem_nil, or_false] at hc
    rcases hc with rfl | rfl | rfl | rfl | rfl
    · exact ⟨_, hz, fun v q => by cases q⟩
    · exact ⟨_, hI, fun v q => by cases q⟩
    · exact ⟨_, hO, fun v q => by cases q⟩
    · exact ⟨_, h1, fun v q => by rw [d1] at q; cases q⟩
    · exact ⟨_, h2, fun v q => by rw [d2] at q; cases q⟩
  keep := fun i h h' st k => by
    obtain ⟨hz, hI, ⟨x, y, hO⟩, ⟨o1, h1, c1, d1⟩, ⟨o2, h2, c2, d2⟩⟩ := st
    exact ⟨k z (by simp) _ hz, k TI (by simp) _ hI, ⟨x, y, k TO (by simp) _ hO⟩, ⟨o1, k i1 (by simp) _ h1, c1, d1⟩, ⟨o2, k i2 (by simp) _ h2, c2, d2⟩⟩
  item := by
    intro X hP hw hK hc i pins s σ H E I hf st hg
    subst hP hw hK
    obtain ⟨hz, hI, hO, hl, ht⟩ := st
    obtain ⟨xs, ys, x, y, qx, qy, hx, hy⟩ := hg
    obtain ⟨its, rv, hL, hzl⟩ := I.list qx
    obtain ⟨jts, rw', hT, hzt⟩ := I.tuple qy
    obtain ⟨u, hu, ru⟩ := rv.get hx
    obtain ⟨u2, hu2, ru2⟩ := rw'.get hy
    have hil : i < its.toArray.size := by rw [List.size_toArray]; exact (List.getElem?_eq_some_iff.mp hu).1
    have hjl : i < jts.toArray.size := by rw [List.size_toArray]; exact (List.getElem?_eq_some_iff.mp hu2).1
    have D1 := Draws.list (prog := X.prog) (w := X.w) (A := X.A.in1) (I.ok.hd hc) i1 a na its.toArray
    have D2 := Draws.tuple (prog := X.prog) (w := X.w) (A := X.A.in1) (I.ok.hd hc) i2 b nb jts.toArray
    have G := GoesN.zip2 (elts := elts) (x1 := kk) (pos := tpos) sep D1 D2
    refine G.goes i s _ E (by omega) ⟨hz, hI, hO, ⟨hl, plain_list hL⟩, ⟨ht, hT⟩⟩ fun v h' tk hY st' hk htk => ?_
    obtain ⟨T, x', y', rfl, hTs, hx', hy', oT, hTg, hTc, nT, hTd⟩ := hY
    have ex : x' = u := by
      have q : its.toArray[i]? = some u := by simpa using hu
      rw [hx'] at q
      exact Option.some.inj q
    have ey : y' = u2 := by
      have q : jts.toArray[i]? = some u2 := by simpa using hu2
      rw [hy'] at q
      exact Option.some.inj q
    subst ex ey
    have new : ObjOk X.prog X.w (upd H T (.tup [x, y])) h' T (.tup [x, y]) :=
      ⟨(by show 2 ≤ sizeLine; decide), [x', y'], .cons ru (.cons ru2 .nil), ⟨oT, hTg, hTc, nT, hTd⟩⟩
    have I1 : Inv X pins σ (upd H T (.tup [x, y])) { s with heap := h', toks := tk } := I.turnedNew (ch := [z, TO, i1, i2]) hk (fun c hc => hf c (by
      simp only [List.mem_cons, List.not_mem_nil, or_false] at hc ⊢
      rcases hc with h | h | h | h
      · exact .inl h
      · exact .inr (.inr (.inl h))
      · exact .inr (.inr (.inr (.inl h)))
      · exact .inr (.inr (.inr (.inr h))))) hTs new
    obtain ⟨hz', hI', hO', ⟨hl', _⟩, ⟨ht', _⟩⟩ := st'
    refine ⟨.ref T, _, I1, rfl, ⟨T, x, y, rfl, I.hok.fresh hTs, rfl, fun zs h => by rw [I.list_inj h qx]; exact hx, fun zs h => by rw [I.tuple_inj h qy]; exact hy⟩, ⟨hz', hI', hO', hl', ht'⟩, fun c hc => ?_⟩
    have hcs : c < s.heap.objs.size := by
      simp only [List.mem_cons, List.not_mem_nil, or_false] at hc
      obtain ⟨xo, yo, hO2⟩ := hO
      obtain ⟨_, q1, _⟩ := hl
      obtain ⟨_, q2, _⟩ := ht
      rcases hc with rfl | rfl | rfl | rfl | rfl
      · exact Heap.lt_size hz
      · exact Heap.lt_size hI
      · exact Heap.lt_size hO2
      · exact Heap.lt_size q1
      · exact Heap.lt_size q2
    rw [upd_ne (fun e => by rw [e] at hcs; exact absurd hTs (Nat.not_le_of_lt hcs))]
    exact (hf c hc).1
  done := by
    intro X hP hw hK hc i pins s σ H E I hf st hg
    subst hP hw hK
    obtain ⟨hz, hI, hO, hl, ht⟩ := st
    obtain ⟨xs, ys, qx, qy, hx, hy⟩ := hg
    obtain ⟨its, rv, hL, hzl⟩ := I.list qx
    obtain ⟨jts, rw', hT, hzt⟩ := I.tuple qy
    have D1 := Draws.list (prog := X.prog) (w := X.w) (A := X.A.in1) (I.ok.hd hc) i1 a na its.toArray
    have D2 := Draws.tuple (prog := X.prog) (w := X.w) (A := X.A.in1) (I.ok.hd hc) i2 b nb jts.toArray
    have G := GoesN.zip2 (elts := elts) (x1 := kk) (pos := tpos) sep D1 D2
    have e1 : its.toArray.size = i := by rw [List.size_toArray, ← rv.length]; exact hx
    have e2 : jts.toArray.size = i := by rw [List.size_toArray, ← rw'.length]; exact hy
    have em : min its.toArray.size jts.toArray.size = i := by omega
    refine G.stops s _ E (by rw [em]; exact ⟨hz, hI, hO, ⟨hl, plain_list hL⟩, ⟨ht, hT⟩⟩) fun h' tk hk htk => ?_
    exact I.turnedL (ch := [z, TO, i1, i2]) hk (fun c hc => hf c (by
      simp only [List.mem_cons, List.not_mem_nil, or_false] at hc ⊢
      rcases hc with h | h | h | h
      · exact .inl h
      · exact .inr (.inr (.inl h))
      · exact .inr (.inr (.inr (.inl h)))
      · exact .inr (.inr (.inr (.inr h)))))
  self := fun A i s Q E st h => wpAny_pyIter_zip st.1 h
theorem ne_N {x y : Nat} (h : x < y ∨ y < x) : x ≠ y := by omega
theorem sepN {n a b : Nat} (ha : a < n) (hb : b < n) : ZipSep2 (n + 4) (n + 2) (n + 3) n (n + 1) [n, a] [n + 1, b] := by
  have m : ∀ {x u v : Nat}, (x < u ∨ u < x) → (x < v ∨ v < x) → ¬ x ∈ [u, v] := fun h1 h2 hm => by
    simp only [List.mem_cons, List.not_mem_nil, or_false] at hm
    omega
  exact ⟨ne_N (by omega), ne_N (by omega), ne_N (by omega), ne_N (by omega), List.mem_cons_self, m (by omega) (by omega), m (by omega) (by omega), ne_N (by omega), List.mem_cons_self, m (by omega) (by omega), m (by omega) (by omega), m (by omega) (by omega), m (by omega) (by omega)⟩
def iZipM (K : PySem.W.Frag) (ta : TA) : TI := fun σ H R => ta σ H fun vs H1 => ∃ a b xs ys, vs = [.ref a, .ref b] ∧ SqL K H1 a xs ∧ SqT K H1 b ys ∧ R (ItzM K a b) H1
open PySem.Spec PyProof.Rows in
theorem pi_zipM {X : Cx} {e e2 : Expr} {ta : TA} {p pos tpos : Pos} {elts : List Expr} {kk : Nat} (hg : Gl X "zip") (hm : X.mg "zip" = none) (ha : PA X [e, e2] ta) (hs : starEach [e, e2] X.env = (false, eval e X.env) :: starEach [e2] X.env := by rfl) (hpl : (backTo pos (starEach [e2] X.env)).any (·.1) = false := by rfl) :
    PI X (.Tuple elts kk tpos) (.Call (.Name "zip" p) [e, e2] [] pos) (iZipM X.K ta) := by
  refine ⟨fun pins s σ H R I h => ?_⟩
  refine Call_ (ld_blt I hg hm boot_zip (PyProof.Rows.callWith_type1 (thn (ha.run pos pins s σ H _ I h) fun us s1 ⟨vs, H1, I1, r1, a, b, xs, ys, ex, qx, qy, q⟩ => ?_) hs hpl))
  subst ex
  obtain ⟨its, rv, hL, _⟩ := I1.list qx
  obtain ⟨jts, rw', hT, _⟩ := I1.tuple qy
  cases r1 with
  | cons ra r1 =>
  cases r1 with
  | cons rb r1 =>
  cases r1
  obtain rfl := ra
  obtain rfl := rb
  have hal : a < s1.heap.objs.size := by
    obtain ⟨o, ho, _⟩ := plain_list hL
    exact Heap.lt_size ho
  have hbl : b < s1.heap.objs.size := by
    obtain ⟨o, ho, _⟩ := hT
    exact Heap.lt_size ho
  refine zip_begins2 (begins_list a its.toArray) (begins_tuple b jts.toArray) (plain_list hL) hT fun h' hz hI hO h1 h2 hsz hk => wpAny_pyIter_zip hz ?_
  have I2 : Inv X pins σ H1 { s1 with heap := h' } := I1.kept (t' := s1.toks) hk
  have fp : ∀ c ∈ [s1.heap.objs.size + 4, s1.heap.objs.size + 2, s1.heap.objs.size + 3, s1.heap.objs.size, s1.heap.objs.size + 1], s1.heap.objs.size ≤ c := fun c hc => by
    simp only [List.mem_cons, List.not_mem_nil, or_false] at hc
    rcases hc with rfl | rfl | rfl | rfl | rfl <;> omega
  have sep := sepN (n := s1.heap.objs.size) (a := a) (b := b) hal hbl
  refine ⟨s1.heap.objs.size + 4, [s1.heap.objs.size + 4, s1.heap.objs.size + 2, s1.heap.objs.size + 3, s1.heap.objs.size, s1.heap.objs.size + 1], _, _, H1, rfl, I2, turn_zipM sep (Nat.ne_of_lt hal) (Nat.ne_of_lt (Nat.lt_succ_of_lt hbl)), ⟨hz, hI, ⟨_, _, hO⟩, ⟨_, h1, rfl, rfl⟩, ⟨_, h2, rfl, rfl⟩⟩, fun c hc => I1.fpOk (fp c hc) (I1.hok.fresh (fp c hc)), q⟩
/-- a loop over zip of a list and a tuple of one length -/
theorem for_zipM {K : PySem.W.Frag} {a b : Addr} {xs ys : List V} {g : TG} {tb : TS} {D : Ends} {σ : L2.St} {H : Hp} (hl : xs.length = ys.length) (Pv : Nat → L2.St → Hp → Prop) (h0 : Pv 0 σ H) (hq : ∀ i σ H, Pv i σ H → SqL K H a xs ∧ SqT K H b ys)
    (hs : ∀ (i : Nat) (x y : V) (T : Addr) (σ : L2.St) (H : Hp), xs[i]? = some x → ys[i]? = some y → Pv i σ H → H T = none → g (.ref T) σ (upd H T (.tup [x, y])) fun σ2 H2 => tb { D with nx := Pv (i + 1), ct := Pv (i + 1), bk := D.nx } σ2 H2) (hd : ∀ σ H, Pv xs.length σ H → D.nx σ H) :
    ∃ W : Nat → Nat → L2.St → Hp → Prop, (∃ m, W 0 m σ H) ∧ ∀ i m σ H, W i m σ H →
      ((ItzM K a b).stop i H ∧ D.nx σ H) ∨ ((ItzM K a b).go i H ∧ ∃ N : L2.St → Hp → Prop, (∀ σ' H', N σ' H' → ∃ m', m' < m ∧ W (i + 1) m' σ' H') ∧ ∀ v H', (ItzM K a b).yld i H v H' → g v σ H' fun σ2 H2 => tb { D with nx := N, ct := N, bk := D.nx } σ2 H2) := by
  refine ⟨fun i m σ H => m + i = xs.length ∧ Pv i σ H, ⟨xs.length, rfl, h0⟩, ?_⟩
  rintro i m σ H ⟨hm, p⟩
  obtain ⟨qx, qy⟩ := hq i σ H p
  by_cases hlt : i < xs.length
  · refine .inr ⟨⟨xs, ys, _, _, qx, qy, List.getElem?_eq_getElem hlt, List.getElem?_eq_getElem (by omega)⟩, Pv (i + 1), fun σ' H' p' => ⟨m - 1, by omega, by omega, p'⟩, ?_⟩
    rintro v H' ⟨T, x, y, rfl, hT, rfl, f1, f2⟩
    exact hs i x y T σ H (f1 xs qx) (f2 ys qy) p hT
  · have e : i = xs.length := by omega
    subst e
    exact .inl ⟨⟨xs, ys, qx, qy, rfl, hl.symm⟩, hd σ H p⟩
end ZipM
namespace Un
open PySem L2 TL
section
variable {P : Program} {w : World} {K : PySem.W.Frag} {mg : Str → Option Value} {base : Heap}
/-! ### the plain parts of a use -/
theorem ok_n_wiresU {f C : Addr} {fd : FuncData} (F : Fun K "wires" "Net.wires" sN_wires f fd) (C' : NetC K C) : FnOk P w K mg base CX0 1 f fd ["self"] (spStrOfU C "_plain" wiresP) := by
  refine F.ok scN_wires (fun vs H Q E h => ?_) (fun cdv A outer s H vs Q E hr h => ?_)
  · obtain ⟨a, dx, p, fs, us, ps, rfl, _⟩ := h
    rfl
  obtain ⟨a, dx, p, fs, us, ps, rfl, ha, hf, pa, q⟩ := h
  have pl := pa.l
  refine ⟨_, (pss_one (ps_ret (pe_lc (own := [("part", 1)]) (g := (gName 1)) rfl scN_wires.nd (pi_list (pe_fld (pv 0) rfl)) (blkOk_by (own := [("part", 1)]) (N := ["self", "part"]) (sc := defScope sN_wires) (by decide +kernel)) (fun _ _ _ _ _ => (pg_name (i := 1) scN_wires.nd rfl (Or.inl rfl) (Or.inr rfl))) (fun _ _ _ _ _ => pts_nil) (fun _ _ _ _ _ => (pe_ix (ixT (K := K) rfl) (pv 1) pe_int (fun _ _ => rfl)))))), ?_⟩
  refine ⟨_, rfl, a, C, dx, fs, _, rfl, ha, C'.cl, C'.m, hf, p, rfl, ⟨_, SqL.of pa.at_⟩, fun l hl => ?_⟩
  refine lc_list (xs := us) (fun i H2 => Same H H2 ∧ H2 l = some (.lst ((wiresP (ps.take i)).map V.str))) ⟨same_upd hl _, upd_same⟩ (fun i H2 _ h => SqL.of (h.1 _ _ pa.at_)) (fun i x H2 hx ⟨s2, hl2⟩ => ?_) (fun H2 ⟨s2, hl2⟩ => ?_)
  · obtain ⟨pp, hp, pt, _⟩ := (pa.same s2).nth hx
    obtain ⟨b, r, rfl, hb⟩ := pt.two
    have hi := (List.getElem?_eq_some_iff.mp hp).1
    refine ⟨rfl, _, rfl, b, _, 1, _, rfl, rfl, SqT.of hb, atI_nat (j := 1) rfl, _, hl2, ?_, fun c oc hc => ?_, ?_⟩
    · rw [List.length_map, List.length_map]
      exact small1000 (Nat.le_trans (List.length_take_le _ _) (by omega))
    · rw [upd_ne (ne_of_none hc hl)]
      exact s2 _ _ hc
    · rw [upd_same, List.take_add_one, hp]
      simp
  · rw [pa.all.1, List.take_length] at hl2
    exact q l H2 s2 hl hl2
def tJn (ts : List TE) : TE := fun σ H Q => tJs ts Str.empty σ H fun out H1 => Q (.str out) H1
theorem pe_jn {X : Cx} {v1 v2 : Expr} {rest : List Expr} {ts : List TE} {pos : Pos} (h : PJ X (v1 :: v2 :: rest) ts) : PE X (.JoinedStr (v1 :: v2 :: rest) pos) (tJn ts) := pe_joined h
def slash (w z : Str) : Str := ((Str.empty ++ w) ++ ("/" : Str)) ++ z
/-- the name that stands for z within the use w: that of the last pair, or w/z -/
def nmAt (w : Str) (l : List (Str × Str)) (z : Str) : Str := (l.reverse.lookup z).getD (slash w z)
theorem nmAt_nil {w z : Str} : nmAt w [] z = slash w z := rfl
theorem nmAt_snoc {w z s e : Str} {l : List (Str × Str)} : nmAt w (l ++ [(s, e)]) z = if z = s then e else nmAt w l z := by
  unfold nmAt
  rw [List.reverse_append]
  show ((List.lookup z ((s, e) :: l.reverse)).getD _) = _
  rw [List.lookup_cons]
  by_cases h : z = s
  · rw [if_pos h, show (z == s) = true from beq_iff_eq.mpr h]
    rfl
  · rw [if_neg h, show (z == s) = false from beq_eq_false_iff_ne.mpr h]
theorem slash_len {w z : Str} : (slash w z).length = w.length + 1 + z.length := by
  unfold slash
  simp only [Str.length_append]
  show 0 + w.length + 1 + z.length = _
  omega
abbrev sPlainUse : Stmt := top 56
structure UseOk (D : ND) (w : Str) (es : List Str) : Prop where
  ln : (sourcesP D.ps).length = es.length
  wl : w.length ≤ 100
  qw : ∀ z ∈ wiresP D.qs, z.length ≤ 100
  ew : ∀ q ∈ D.qs, ∀ z ∈ endsP q, z ∈ wiresP D.qs
  o1 : ∃ z r, D.os = z :: r ∧ z ∈ wiresP D.qs
def usePairs (D : ND) (es : List Str) : List (Str × Str) := (sourcesP D.ps).zip es
def usePlain (w : Str) (D : ND) (es : List Str) : List Pt := (D.qs.filter fun q => !decide (kindP q = "source")).map (renP (nmAt w (usePairs D es))) ++ [.mix w [⟨1, 0, nmAt w (usePairs D es) (D.os.headD "")⟩]]
def spPlainUse (C : Addr) : Sp := fun vs H Q _ => ∃ (w : Str) (n b : Addr) (D : ND) (es : List Str), vs = [.str w, .ref n, .ref b] ∧ NetU H C n D ∧ H b = some (.tup (es.map V.str)) ∧ UseOk D w es ∧ ∀ (l : Addr) (us : List V) (H' : Hp), Same H H' → H l = none → H' l = some (.lst us) → All2 (PtAt H') us (usePlain w D es) → Q (.ref l) H'
theorem mem_at {ws : List Str} {z : Str} {i : Nat} (h : ws[i]? = some z) : z ∈ ws := List.mem_of_getElem? h
theorem scPlainUse : FnScope ["wire", "piece", "ends", "sources", "names", "source", "end", "inner_parts", "inner", "part"] ["wire", "piece", "ends"] (defScope sPlainUse) := ⟨rfl, rfl, rfl, by decide +kernel, rfl, by decide +kernel, by decide +kernel⟩
theorem ok_plainUse {f C fs fw fp fo fr : Addr} {fd ds dw dp d_o dr : FuncData} (F : Fun K "plain_of_use" "plain_of_use" sPlainUse f fd) (C' : NetC K C) (mzip : mg "zip" = none) (MS : Mt P w K mg base C 1 fs ds "sources" ["self"] (spStrOfU C "_parts" sourcesP)) (MW : Mt P w K mg base C 1 fw dw "wires" ["self"] (spStrOfU C "_plain" wiresP)) (MP : Mt P w K mg base C 1 fp dp "plain" ["self"] (spFldL K C "_plain")) (MO : Mt P w K mg base C 1 fo d_o "outs" ["self"] (spFldL K C "_outs")) (GR : Df P w K mg base 1 fr dr "renamed" ["part", "names"] spRen) : FnOk P w K mg base CX0 2 f fd ["wire", "piece", "ends"] (spPlainUse C) := by
  refine F.ok scPlainUse (fun vs H Q E h => ?_) (fun cdv A outer s H vs Q E hr h => ?_)
  · obtain ⟨w, n, b, D, es, rfl, _⟩ := h
    rfl
  obtain ⟨wr, n, b, D, es, rfl, nu, hb, ok, q⟩ := h
  refine ⟨_, (pss_cons (ps_set (i := 3) scPlainUse.nd rfl (by first | exact Or.inl rfl | exact Or.inr rfl) (pe_meth0 (pv 1) C'.cl MS.mt MS.ok (hr.mono (by decide)) MS.b .nil pass0))
 (pss_cons (ps_set (i := 4) scPlainUse.nd rfl (by first | exact Or.inl rfl | exact Or.inr rfl) (pe_dc (own := [("inner", 8)]) (g := (gName 8)) rfl scPlainUse.nd (pi_list (pe_meth0 (pv 1) C'.cl MW.mt MW.ok (hr.mono (by decide)) MW.b .nil pass0)) (blkOk_by (own := [("inner", 8)]) (N := ["wire", "piece", "ends", "sources", "names", "source", "end", "inner_parts", "inner", "part"]) (sc := defScope sPlainUse) (by decide +kernel)) (fun _ _ _ _ _ => (pg_name (i := 8) scPlainUse.nd rfl (Or.inl rfl) (Or.inr rfl))) (fun _ _ _ _ _ => pts_nil) (fun _ _ _ _ _ => (pv 8)) (fun _ _ _ _ _ => (pe_jn (.cons (pe_fmt (pv 0)) (.cons pe_str (.cons (pe_fmt (pv 8)) .nil)))))))
 (pss_cons (ps_for PassesOwn.never rfl (ZipM.pi_zipM (by rfl) mzip (pa_cons (pv 3) (pa_cons (pv 2) pa_nil))) (pg_tup (by rfl) (pgs_cons (pg_name (i := 5) scPlainUse.nd rfl (by first | exact Or.inl rfl | exact Or.inr rfl)) (pgs_cons (pg_name (i := 6) scPlainUse.nd rfl (by first | exact Or.inl rfl | exact Or.inr rfl)) pgs_nil)))
 (pss_one (ps_dput (hu_of hr) (pv 4) (pv 5) (pv 6) rfl)))
 (pss_cons (ps_setLc (i := 7) (own := [("part", 9)]) (g := (gName 9)) rfl scPlainUse.nd rfl rfl (sw_true rfl rfl rfl (by decide +kernel)) (pi_list (pe_meth0 (pv 1) C'.cl MP.mt MP.ok (hr.mono (by decide)) MP.b .nil pass0)) (blkOk_by (own := [("part", 9)]) (N := ["wire", "piece", "ends", "sources", "names", "source", "end", "inner_parts", "inner", "part"]) (sc := defScope sPlainUse) (by decide +kernel)) (fun _ _ _ _ _ => (pg_name (i := 9) scPlainUse.nd rfl (Or.inl rfl) (Or.inr rfl))) (fun _ _ _ _ _ => (pts_one (pt_cmpR op_ne (pe_ix (ixT (K := K) rfl) (pv 9) pe_int (fun _ _ => rfl)) pe_str (nomark _)))) (fun _ _ _ _ _ => (pe_call GR.ok (hr.mono (by decide)) (by rfl) GR.m GR.kp GR.b .nil pass0 (pa_cons (pv 9) (pa_cons (pv 4) pa_nil)))))
 (pss_one (ps_ret (pe_lst (StX.pa_star (pv 7) (pa_cons (pe_tup (pa_cons pe_str (pa_cons (pv 0) (pa_cons (pe_tup (pa_cons (pe_tup (pa_cons pe_int (pa_cons pe_int (pa_cons (pe_dget (hu_of hr) (pv 4) (pe_ix ix_list (pe_meth0 (pv 1) C'.cl MO.mt MO.ok (hr.mono (by decide)) MO.b .nil pass0) pe_int (fun _ _ => rfl)) (fun _ _ => rfl)) pa_nil)))) pa_nil)) pa_nil)))) pa_nil))))))))), ?_⟩
  obtain ⟨dx, fp', fo', fd', fm, pus, pvs, hn, hps, hos, hqs, hnu⟩ := nu
  refine ⟨_, rfl, n, dx, _, rfl, hn, rfl, n, dx, fp', _, pus, D.ps, rfl, hn, rfl, hps, fun sl H1 s1 hs0 hs1 => ?_⟩
  refine ⟨_, rfl, n, dx, _, rfl, s1 _ _ hn, rfl, n, dx, fm, _, pvs, D.qs, rfl, s1 _ _ hn, rfl, hqs.same s1, fun wl H2 s2 hw0 hw2 => ?_⟩
  have hos2 := (s1.trans s2) _ _ hos
  have s12 := s1.trans s2
  have wl100 : (wiresP D.qs).length ≤ 100 := by show (D.qs.map Pw).length ≤ 100; rw [List.length_map]; exact hqs.l
  refine ⟨wl, rfl, ⟨_, SqL.of hw2⟩, fun d hd => ?_⟩
  have hd0 : H d = none := s12.free hd
  refine dc_lst (xs := (wiresP D.qs).map V.str) (fun i H3 => Same H2 H3 ∧ ∃ kvs : List (Key × V), H3 d = some (.dK kvs) ∧ kvs.length ≤ i ∧ ∀ z ∈ (wiresP D.qs).take i, valV kvs (Sum.inr z) = some (.str (slash wr z))) ⟨same_upd hd _, [], upd_same, Nat.le_refl _, fun z hz => by cases hz⟩ (fun i H3 _ h => SqL.of (h.1 _ _ hw2)) (fun i x H3 hx ⟨s3, kvs, hd3, kl, hv⟩ => ?_) (fun H3 ⟨s3, kvs, hd3, kl, hv⟩ => ?_)
  · rw [List.getElem?_map] at hx
    cases ez : (wiresP D.qs)[i]? with
    | none => rw [ez] at hx; cases hx
    | some z =>
      rw [ez] at hx
      cases hx
      have hi := (List.getElem?_eq_some_iff.mp ez).1
      have zl := ok.qw z (List.mem_of_getElem? ez)
      have hwl := ok.wl
      refine ⟨rfl, _, rfl, _, rfl, .inl ⟨wr, rfl, Nat.le_trans (show _ ≤ 1000 by omega) (by decide), wr, rfl, Nat.le_trans (show _ ≤ 1000 by simp only [Str.length_append]; show 0 + _ ≤ 1000; omega) (by decide), ("/" : Str), rfl, Nat.le_trans (show _ ≤ 1000 by simp only [Str.length_append]; show 0 + _ + 1 ≤ 1000; omega) (by decide), _, rfl, .inl ⟨z, rfl, Nat.le_trans (show _ ≤ 1000 by omega) (by decide), z, rfl, Nat.le_trans (show _ ≤ 1000 by simp only [Str.length_append]; show 0 + _ + 1 + _ ≤ 1000; omega) (by decide), ?_⟩⟩⟩
      refine ⟨kvs, Sum.inr z, rfl, hd3, Nat.lt_of_le_of_lt kl (small1000 (by omega)), fun e o he => ?_, putK kvs (Sum.inr z) (.str (slash wr z)), upd_same, ?_, fun y hy => ?_⟩
      · rw [upd_ne (ne_of_none he hd)]
        exact s3 _ _ he
      · have := length_putK kvs (Sum.inr z) (V.str (slash wr z))
        omega
      · rw [valV_put]
        by_cases e : z = y
        · rw [if_pos (by rw [e]), e]
        · rw [if_neg (fun h => e (Sum.inr.inj h).symm)]
          rw [List.take_add_one, ez] at hy
          rcases List.mem_append.mp hy with h | h
          · exact hv y h
          · exact absurd (List.mem_singleton.mp h).symm e
  rw [List.length_map, List.take_length] at hv
  rw [List.length_map] at kl
  have s13 := s12.trans s3
  -- the sources' ends
  refine ⟨_, rfl, _, rfl, sl, b, _, _, rfl, SqL.of ((s2.trans s3) _ _ hs1), SqT.of (s13 _ _ hb), ?_⟩
  have hb3 := s13 _ _ hb
  have hsl3 := (s2.trans s3) _ _ hs1
  have nsd : sl ≠ d := ne_of_none (s2 _ _ hs1) hd
  have nold : ∀ {e : Addr} {o : HO}, H e = some o → e ≠ d := fun he => ne_of_none he hd0
  refine ZipM.for_zipM (xs := (sourcesP D.ps).map V.str) (ys := es.map V.str) (by rw [List.length_map, List.length_map]; exact ok.ln) (fun i σ H4 => (∃ v5 v6 v7 v8 v9, σ = [some (.str wr), some (.ref n), some (.ref b), some (.ref sl), some (.ref d), v5, v6, v7, v8, v9]) ∧ Kp d H3 H4 ∧ ∃ kvs : List (Key × V), H4 d = some (.dK kvs) ∧ kvs.length ≤ (wiresP D.qs).length + i ∧ ∀ z ∈ wiresP D.qs, valV kvs (Sum.inr z) = some (.str (nmAt wr ((usePairs D es).take i) z))) ⟨⟨_, _, _, _, _, rfl⟩, Kp.refl d H3, kvs, hd3, by omega, fun z hz => by rw [List.take_zero, nmAt_nil]; exact hv z hz⟩ (fun i σ H4 h => ⟨SqL.of (h.2.1 _ _ hsl3 nsd), SqT.of (h.2.1 _ _ hb3 (nold hb))⟩) ?_ ?_
  · rintro i x y T σ H4 hx hy ⟨⟨v5, v6, v7, v8, v9, rfl⟩, k4, kvs4, hd4, kl4, hv4⟩ hT
    rw [List.getElem?_map] at hx hy
    cases es' : (sourcesP D.ps)[i]? with
    | none => rw [es'] at hx; cases hx
    | some sr =>
    cases ee : es[i]? with
    | none => rw [ee] at hy; cases hy
    | some en =>
    rw [es'] at hx
    rw [ee] at hy
    cases hx
    cases hy
    have hi := (List.getElem?_eq_some_iff.mp es').1
    have s5 := same_upd hT (.tup [V.str sr, V.str en])
    have hd5 := s5 _ _ hd4
    have sl10 : (sourcesP D.ps).length ≤ 100 := by
      unfold sourcesP
      rw [List.length_map]
      exact Nat.le_trans (List.length_filter_le _ _) hps.l
    refine ⟨T, _, rfl, SqT.of upd_same, rfl, _, _, rfl, _, _, rfl, rfl, ?_⟩
    refine ⟨_, rfl, _, rfl, _, rfl, d, _, rfl, DPut.k (k := Sum.inr sr) hd5 (Nat.lt_of_le_of_lt kl4 (small1000 (by omega))), ?_⟩
    have tk : (usePairs D es).take (i + 1) = (usePairs D es).take i ++ [(sr, en)] := by
      rw [List.take_add_one]
      have : (usePairs D es)[i]? = some (sr, en) := by
        unfold usePairs
        rw [List.getElem?_zip_eq_some]
        exact ⟨es', ee⟩
      rw [this]
      rfl
    refine ⟨⟨_, _, _, _, _, rfl⟩, fun e o he ne => ?_, putK kvs4 (Sum.inr sr) (.str en), upd_same, ?_, fun z hz => ?_⟩
    · rw [upd_ne ne]
      exact s5 _ _ (k4 _ _ he ne)
    · have := length_putK kvs4 (Sum.inr sr) (V.str en)
      omega
    · rw [tk, nmAt_snoc, valV_put]
      by_cases e : z = sr
      · rw [if_pos (by rw [e]), if_pos e]
      · rw [if_neg (fun h => e (Sum.inr.inj h)), if_neg e]
        exact hv4 z hz
  · rintro σ H4 ⟨⟨v5, v6, v7, v8, v9, rfl⟩, k4, kvs4, hd4, kl4, hv4⟩
    rw [List.length_map, show (sourcesP D.ps).length = (usePairs D es).length by unfold usePairs; rw [List.length_zip, ok.ln, Nat.min_self], List.take_length] at hv4
    have s04 : Same H H4 := fun e o he => k4 _ _ (s13 _ _ he) (nold he)
    have nms : NmsAt H4 d (nmAt wr (usePairs D es)) (wiresP D.qs) := ⟨kvs4, hd4, hv4⟩
    refine ⟨_, rfl, n, dx, _, rfl, s04 _ _ hn, rfl, n, dx, fm, _, pvs, rfl, s04 _ _ hn, rfl, s04 _ _ hqs.at_, fun pl hpl => ?_⟩
    have s5 := same_upd hpl (.lst pvs)
    have hpl5 : upd H4 pl (.lst pvs) pl = some (.lst pvs) := upd_same
    generalize upd H4 pl (.lst pvs) = H5 at s5 hpl5 ⊢
    have s05 := s04.trans s5
    refine ⟨pl, rfl, ⟨_, SqL.of hpl5⟩, fun I hI => ?_⟩
    refine lc_list (xs := pvs) (fun i H6 => Same H5 H6 ∧ ∃ us, H6 I = some (.lst us) ∧ us.length ≤ i ∧ All2 (PtAt H6) us (((D.qs.take i).filter fun q => !decide (kindP q = "source")).map (renP (nmAt wr (usePairs D es))))) ⟨same_upd hI _, [], upd_same, Nat.le_refl _, .nil⟩ (fun i H6 _ h => SqL.of (h.1 _ _ hpl5)) (fun i x H6 hx ⟨s6, us, hI6, ul, hA⟩ => ?_) (fun H6 ⟨s6, us, hI6, ul, hA⟩ => ?_)
    · obtain ⟨pp, hp, pt, sh⟩ := (hqs.same (s05.trans s6)).nth hx
      have ptt := pt.two
      obtain ⟨c, r, rfl, hc⟩ := ptt
      have hi := (List.getElem?_eq_some_iff.mp hp).1
      have e : D.qs.take (i + 1) = D.qs.take i ++ [pp] := by rw [List.take_add_one, hp]; rfl
      have hql := hqs.l
      refine ⟨rfl, _, rfl, c, _, 0, _, rfl, rfl, SqT.of hc, atI_nat (j := 0) rfl, rfl, _, rfl, ?_⟩
      by_cases hk : kindP pp = "source"
      · rw [show (!decide (V.str (kindP pp) = V.str "source")) = false by rw [hk]; simp]
        refine iteF ⟨s6, us, hI6, by omega, ?_⟩
        rw [e, List.filter_append, List.filter_cons_of_neg (by simpa using hk)]
        simpa using hA
      · rw [show (!decide (V.str (kindP pp) = V.str "source")) = true by rw [decide_eq_false fun z => hk (V.str.inj z)]; rfl]
        have hmem := List.mem_of_getElem? hp
        refine iteT ⟨_, rfl, _, rfl, .ref c, d, pp, nmAt wr (usePairs D es), wiresP D.qs, rfl, pt, sh, hnu pp hmem, hk, nms.same (s5.trans s6), List.mem_map.mpr ⟨pp, hmem, rfl⟩, ok.ew pp hmem, fun y H7 s7 hy => ?_⟩
        have hI7 := s7 _ _ hI6
        refine ⟨us, hI7, small1000 (by omega), fun e' o he => ?_, us ++ [y], upd_same, by rw [List.length_append]; show _ + 1 ≤ _; omega, ?_⟩
        · rw [upd_ne (ne_of_none he hI)]
          exact s7 _ _ (s6 _ _ he)
        · rw [e, List.filter_append, List.filter_cons_of_pos (by simpa using hk), List.map_append]
          exact (hA.mono fun _ _ z => (z.tups (Same.tups s7)).wr hI7).snoc (hy.wr hI7)
    · rw [hqs.all.1, List.take_length] at hA
      have hql := hqs.l
      have pl100 : pvs.length ≤ 100 := by rw [hqs.all.1]; exact hql
      have s06 := s05.trans s6
      obtain ⟨o1, orr, ho1, hom⟩ := ok.o1
      refine ⟨_, rfl, I, us, rfl, .inr (SqL.of hI6), ?_⟩
      refine ⟨_, rfl, _, rfl, _, rfl, n, dx, _, rfl, s06 _ _ hn, rfl, n, dx, fo', _, D.os.map V.str, rfl, s06 _ _ hn, rfl, s06 _ _ hos, fun ol hol => ?_⟩
      have s7 := same_upd hol (.lst (D.os.map V.str))
      have hol7 : upd H6 ol (.lst (D.os.map V.str)) ol = some (.lst (D.os.map V.str)) := upd_same
      generalize upd H6 ol (.lst (D.os.map V.str)) = H7 at s7 hol7 ⊢
      refine ⟨ol, _, 0, .str o1, rfl, rfl, SqL.of hol7, by rw [ho1]; exact atI_nat (j := 0) rfl, d, _, rfl, (nms.same ((s5.trans s6).trans s7)).get hom, (by show 3 ≤ sizeLine; decide), fun t1 ht1 => ⟨(by show 1 ≤ sizeLine; decide), fun t2 ht2 => ⟨(by show 3 ≤ sizeLine; decide), fun t3 ht3 => ?_⟩⟩⟩
      have r1 := same_upd ht1 (.tup [.int 1, .int 0, .str (nmAt wr (usePairs D es) o1)])
      have e1 : upd H7 t1 (.tup [.int 1, .int 0, .str (nmAt wr (usePairs D es) o1)]) t1 = some (.tup [.int 1, .int 0, .str (nmAt wr (usePairs D es) o1)]) := upd_same
      generalize upd H7 t1 (.tup [.int 1, .int 0, .str (nmAt wr (usePairs D es) o1)]) = H8 at r1 e1 ht2 ht3 ⊢
      have r2 := same_upd ht2 (.tup [.ref t1])
      have e2 : upd H8 t2 (.tup [.ref t1]) t2 = some (.tup [.ref t1]) := upd_same
      generalize upd H8 t2 (.tup [.ref t1]) = H9 at r2 e2 ht3 ⊢
      have r3 := same_upd ht3 (.tup [.str "mix", .str wr, .ref t2])
      have e3 : upd H9 t3 (.tup [.str "mix", .str wr, .ref t2]) t3 = some (.tup [.str "mix", .str wr, .ref t2]) := upd_same
      generalize upd H9 t3 (.tup [.str "mix", .str wr, .ref t2]) = H10 at r3 e3 ⊢
      have s610 := ((s7.trans r1).trans r2).trans r3
      refine ⟨Nat.le_trans (show (us ++ [V.ref t3]).length ≤ 1000 by rw [List.length_append]; show _ + 1 ≤ 1000; omega) (by decide), fun l hl => ?_⟩
      have r4 := same_upd hl (.lst (us ++ [V.ref t3]))
      refine q l (us ++ [.ref t3]) _ ((s06.trans s610).trans r4) ((s06.trans s610).free hl) upd_same ?_
      have all : All2 (PtAt H10) (us ++ [V.ref t3]) (usePlain wr D es) := by
        unfold usePlain
        rw [ho1]
        exact (hA.mono fun _ _ z => z.tups (Same.tups s610)).snoc ⟨t3, t2, [.ref t1], rfl, e3, r3 _ _ e2, All2.nil.snoc ⟨t1, rfl, r3 _ _ (r2 _ _ e1)⟩⟩
      exact all.mono fun _ _ z => z.tups (Same.tups r4)
end
end Un
namespace Un
open PySem L2 TL
section
variable {P : Program} {w : World} {K : PySem.W.Frag} {mg : Str → Option Value} {base : Heap}
/-! ### the plain parts of all parts -/
theorem all2_appU {α β : Type} {R : α → β → Prop} {a c : List α} {b d : List β} (h : All2 R a b) (g : All2 R c d) : All2 R (a ++ c) (b ++ d) := by
  refine ⟨by rw [List.length_append, List.length_append, h.1, g.1], fun i x y hx hy => ?_⟩
  rw [List.getElem?_append] at hx hy
  by_cases lt : i < a.length
  · rw [if_pos lt] at hx
    rw [if_pos (by rw [← h.1]; exact lt)] at hy
    exact h.2 i x y hx hy
  · rw [if_neg lt] at hx
    rw [if_neg (by rw [← h.1]; exact lt), ← h.1] at hy
    exact g.2 _ x y hx hy
def unfoldU (lib : Str → Option ND) : Pt → List Pt
  | .use w p es => match lib p with
    | some D => usePlain w D es
    | none => []
  | p => [p]
def plainU (lib : Str → Option ND) (ps : List Pt) : List Pt := ps.flatMap (unfoldU lib)
theorem plainU_snoc {lib : Str → Option ND} {ps : List Pt} {p : Pt} : plainU lib (ps ++ [p]) = plainU lib ps ++ unfoldU lib p := by
  unfold plainU
  rw [List.flatMap_append]
  simp
def UsesOk (lib : Str → Option ND) (ps : List Pt) : Prop := ∀ w p es, Pt.use w p es ∈ ps → ∃ D, lib p = some D ∧ UseOk D w es ∧ D.qs.length ≤ 100
def spPlainOfU (C : Addr) : Sp := fun vs H Q _ => ∃ (o d : Addr) (us : List V) (ps : List Pt) (lib : Str → Option ND), vs = [.ref o, .ref d] ∧ PsU H o us ps ∧ PcAt H C d lib ∧ UsesOk lib ps ∧ ∀ (m : Addr) (vs' : List V) (H' : Hp), Same H H' → H m = none → H' m = some (.lst vs') → All2 (PtAt H') vs' (plainU lib ps) → Q (.ref m) H'
theorem usePlain_len {w : Str} {D : ND} {es : List Str} (h : D.qs.length ≤ 100) : (usePlain w D es).length ≤ 101 := by
  unfold usePlain
  rw [List.length_append, List.length_map]
  have := List.length_filter_le (fun q => !decide (kindP q = "source")) D.qs
  show _ + 1 ≤ 101
  omega
theorem ok_plainOfU {f C fu : Addr} {fd du : FuncData} (F : Fun K "plain_of" "plain_of" sPlainOf f fd) (GU : Df P w K mg base 2 fu du "plain_of_use" ["wire", "piece", "ends"] (spPlainUse C)) : FnOk P w K mg base CX0 3 f fd ["parts", "pieces"] (spPlainOfU C) := by
  refine F.ok scPlainOf (fun vs H Q E h => ?_) (fun cdv A outer s H vs Q E hr h => ?_)
  · obtain ⟨o, d, us, ps, lib, rfl, _⟩ := h
    rfl
  obtain ⟨o, d, us, ps, lib, rfl, pa, pc, uo, q⟩ := h
  refine ⟨_, (pss_cons (ps_set (i := 2) scPlainOf.nd rfl (by first | exact Or.inl rfl | exact Or.inr rfl) (pe_lst pa_nil))
 (pss_cons (ps_for PassesOwn.never rfl (pi_list (pv 0)) (pg_name (i := 3) scPlainOf.nd rfl (by first | exact Or.inl rfl | exact Or.inr rfl))
 (pss_one (ps_if (pt_cmpR op_eq (pe_ix (ixT (K := K) rfl) (pv 3) pe_int (fun _ _ => rfl)) pe_str (nomark _))
 (pss_one (ps_expr (pe_bm PySem.F.plainAttrs_list PySem.F.slot_list_extend PySem.F.type_list_extend mt_extend (pv 2) (pa_cons (pe_call GU.ok (hr.mono (by decide)) (by rfl) GU.m GU.kp GU.b .nil pass0 (pa_cons (pe_ix (ixT (K := K) rfl) (pv 3) pe_int (fun _ _ => rfl)) (pa_cons (pe_dget (hu_of hr) (pv 1) (pe_ix (ixT (K := K) rfl) (pv 3) pe_int (fun _ _ => rfl)) (fun _ _ => rfl)) (pa_cons (pe_ix (ixT (K := K) rfl) (pv 3) pe_int (fun _ _ => rfl)) pa_nil)))) pa_nil))))
 (pss_one (ps_expr (pe_bm PySem.F.plainAttrs_list PySem.F.slot_list_append PySem.F.type_list_append mt_append (pv 2) (pa_cons (pv 3) pa_nil)))))))
 (pss_one (ps_ret (pv 2))))), ?_⟩
  refine ⟨(by show 0 ≤ sizeLine; decide), fun m hm => ?_⟩
  have s1 := same_upd hm (.lst [])
  have pl := pa.l
  refine ⟨.ref o, rfl, o, rfl, ⟨_, SqL.of (s1 _ _ pa.at_)⟩, ?_⟩
  refine for_list (xs := us) (fun i σ H2 => (∃ v3, σ = [some (.ref o), some (.ref d), some (.ref m), v3]) ∧ Same H H2 ∧ ∃ vs', H2 m = some (.lst vs') ∧ vs'.length ≤ 101 * i ∧ All2 (PtAt H2) vs' (plainU lib (ps.take i))) ⟨⟨_, rfl⟩, s1, [], upd_same, Nat.zero_le _, .nil⟩ (fun i σ H2 _ h => SqL.of (h.2.1 _ _ pa.at_)) ?_ ?_
  · rintro i x σ H2 hx ⟨⟨v3, rfl⟩, s2, vs', hm2, vl, hA⟩
    obtain ⟨p, hp, pt, sh⟩ := (pa.same s2).nth hx
    have hi := (List.getElem?_eq_some_iff.mp hp).1
    have tk : ps.take (i + 1) = ps.take i ++ [p] := by rw [List.take_add_one, hp]; rfl
    have ptt := pt.two
    obtain ⟨a, r, rfl, ha⟩ := ptt
    refine ⟨_, rfl, a, _, 0, _, rfl, rfl, SqT.of ha, atI_nat (j := 0) rfl, rfl, _, rfl, ?_⟩
    have plain : ¬ kindP p = "use" → unfoldU lib p = [p] := fun h => by
      cases p with
      | flat k w es => rfl
      | mix w ts => rfl
      | use w pn es => exact absurd rfl h
    by_cases hk : kindP p = "use"
    case neg =>
      rw [decide_eq_false (fun e => hk (V.str.inj e))]
      refine iteF ?_
      refine ⟨_, rfl, .inl ⟨rfl, _, SqL.of hm2⟩, _, rfl, m, _, _, rfl, rfl, hm2, Nat.lt_of_le_of_lt (show vs'.length ≤ 20000 by omega) (by decide), ⟨_, rfl⟩, fun e oe he => ?_, vs' ++ [.ref a], upd_same, by rw [List.length_append]; show _ + 1 ≤ _; omega, ?_⟩
      · rw [upd_ne (ne_of_none he hm)]
        exact s2 _ _ he
      · rw [tk, plainU_snoc, plain hk]
        exact (hA.mono fun _ _ z => z.wr hm2).snoc (pt.wr hm2)
    · rw [decide_eq_true (by rw [hk])]
      refine iteT ?_
      cases p with
      | flat k w es => exact absurd hk sh.2.1
      | mix w ts => exact absurd hk (by show ¬ ("mix" : Str) = "use"; decide)
      | use w pn es =>
        obtain ⟨a', b, e', ha', hb⟩ := pt
        cases e'
        obtain ⟨D, hl, uok, dl⟩ := uo w pn es (List.mem_of_getElem? hp)
        obtain ⟨kvs, hd, hlib⟩ := pc.same s2
        have hlp := hlib pn
        rw [hl] at hlp
        obtain ⟨n, hv, nu⟩ := hlp
        refine ⟨.ref m, rfl, .inl ⟨rfl, _, SqL.of hm2⟩, _, rfl, a, _, 1, _, rfl, rfl, SqT.of ha', atI_nat (j := 1) rfl, _, rfl, _, rfl, a, _, 2, _, rfl, rfl, SqT.of ha', atI_nat (j := 2) rfl, d, .ref n, rfl, by have := DGet.k (k := Sum.inr pn) hd; rw [hv] at this; exact this, _, rfl, a, _, 3, _, rfl, rfl, SqT.of ha', atI_nat (j := 3) rfl, w, n, b, D, es, rfl, nu, hb, uok, fun l us' H3 s3 hl0 hl3 hA3 => ?_⟩
        have hm3 := s3 _ _ hm2
        have ul : us'.length ≤ 101 := by rw [hA3.1]; exact usePlain_len dl
        refine ⟨m, l, vs', us', rfl, rfl, hm3, hl3, Nat.le_trans (show _ ≤ 20000 by omega) (by decide), ?_⟩
        refine ⟨⟨_, rfl⟩, fun e oe he => ?_, vs' ++ us', upd_same, by rw [List.length_append]; omega, ?_⟩
        · rw [upd_ne (ne_of_none he hm)]
          exact s3 _ _ (s2 _ _ he)
        · rw [tk, plainU_snoc, show unfoldU lib (.use w pn es) = usePlain w D es by simp only [unfoldU, hl]]
          exact all2_appU (hA.mono fun _ _ z => (z.tups (Same.tups s3)).wr hm3) (hA3.mono fun _ _ z => z.wr hm3)
  · rintro σ H2 ⟨⟨v3, rfl⟩, s2, vs', hm2, vl, hA⟩
    rw [pa.all.1, List.take_length] at hA
    exact ⟨_, rfl, q m vs' H2 s2 hm hm2 hA⟩
end
end Un
namespace Un
open PySem L2 TL
section
variable {P : Program} {w : World} {K : PySem.W.Frag} {mg : Str → Option Value} {base : Heap}
/-! ### the boxes of plain parts -/
theorem ShU.kinds {p : Pt} (h : ShU p) (nu : notUse p) : (kindP p ∈ kinds4 ∧ ∃ k w f es, p = .flat k w (f :: es)) ∨ ((kindP p = "source" ∨ kindP p = "mix" ∨ kindP p = "use") ∧ boxP p = []) := by
  cases p with
  | flat k w es =>
    rcases h.2.2.2.2.2 with ⟨rfl, rfl⟩ | ⟨k4, f, e, r, rfl⟩
    · exact .inr ⟨.inl rfl, rfl⟩
    · exact .inl ⟨k4, _, _, _, _, rfl⟩
  | mix w ts => exact .inr ⟨.inr (.inl rfl), rfl⟩
  | use w p es => exact False.elim nu
def spBoxesInU : Sp := fun vs H Q _ => ∃ (o : Addr) (us : List V) (ps : List Pt), vs = [.ref o] ∧ PsU H o us ps ∧ (∀ p ∈ ps, notUse p) ∧ ∀ (l : Addr) (bs : List V) (H' : Hp), Same H H' → H l = none → H' l = some (.lst bs) → All2 (B3At H') bs (boxesP ps) → Q (.ref l) H'
def spBoxesU (C : Addr) : Sp := fun vs H Q _ => ∃ (a dx p : Addr) (fs : List (Str × V)) (us : List V) (ps : List Pt), vs = [.ref a] ∧ H a = some (.ins C dx fs) ∧ fs.lookup ("_plain" : Str) = some (V.ref p) ∧ PsU H p us ps ∧ (∀ p ∈ ps, notUse p) ∧ ∀ (l : Addr) (bs : List V) (H' : Hp), Same H H' → H l = none → H' l = some (.lst bs) → All2 (B3At H') bs (boxesP ps) → Q (.ref l) H'
theorem ok_boxesInU {f : Addr} {fd : FuncData} (F : Fun K "boxes_in" "boxes_in" sBoxesIn f fd) (T : NetTxt K w mg) : FnOk P w K mg base CX0 1 f fd ["plain"] spBoxesInU := by
  refine F.ok scBoxesIn (fun vs H Q E h => ?_) (fun cdv A outer s H vs Q E hr h => ?_)
  · obtain ⟨o, us, ps, rfl, _⟩ := h
    rfl
  obtain ⟨o, us, ps, rfl, pa, nus, q⟩ := h
  obtain ⟨d, es, n, mends, D, e4, e0⟩ := T.ends
  refine ⟨_, (pss_one (ps_ret (pe_lc (own := [("part", 1)]) (g := (gName 1)) rfl scBoxesIn.nd (pi_list (pv 0)) (blkOk_by (own := [("part", 1)]) (N := ["plain", "part"]) (sc := defScope sBoxesIn) (by decide +kernel)) (fun _ _ _ _ _ => (pg_name (i := 1) scBoxesIn.nd rfl (Or.inl rfl) (Or.inr rfl))) (fun _ _ _ _ _ => (pts_one (pt_cmpR (op_inK (K := K) (w := w) rfl rfl D) (pe_ix (ixT (K := K) rfl) (pv 1) pe_int (fun _ _ => rfl)) (pe_glob (v := .ref d) (by rfl) mends rfl) (by rfl)))) (fun _ _ _ _ _ => (pe_tup (pa_cons (pe_ix (ixT (K := K) rfl) (pv 1) pe_int (fun _ _ => rfl)) (pa_cons (pe_ix (ixT (K := K) rfl) (pv 1) pe_int (fun _ _ => rfl)) (pa_cons (pe_ix (ixT (K := K) rfl) (pv 1) pe_int (fun _ _ => rfl)) pa_nil)))))))), ?_⟩
  have pl := pa.l
  refine ⟨.ref o, rfl, o, rfl, ⟨_, SqL.of pa.at_⟩, fun l hl => ?_⟩
  refine lc_list (xs := us) (fun i H2 => Same H H2 ∧ ∃ bs, H2 l = some (.lst bs) ∧ All2 (B3At H2) bs (boxesP (ps.take i))) ⟨same_upd hl _, [], upd_same, rfl, fun i u v hu => by cases hu⟩ (fun i H2 _ h => SqL.of (h.1 _ _ pa.at_)) (fun i x H2 hx ⟨s2, bs, hl2, hb2⟩ => ?_) (fun H2 ⟨s2, bs, hl2, hb2⟩ => ?_)
  · obtain ⟨p, hp, pt, pp⟩ := (pa.same s2).nth hx
    have htk : ps.take (i + 1) = ps.take i ++ [p] := by rw [List.take_add_one, hp]; rfl
    have hi := (List.getElem?_eq_some_iff.mp hp).1
    rw [htk, boxesP_snoc]
    rcases pp.kinds (nus p (List.mem_of_getElem? hp)) with ⟨k4, k, wr, f, es', rfl⟩ | ⟨k3, hb0⟩
    · obtain ⟨a, rfl, ha⟩ := pt
      obtain ⟨t, et⟩ := e4 k k4
      refine ⟨rfl, _, rfl, a, _, 0, _, rfl, rfl, SqT.of ha, atI_nat (j := 0) rfl, k, _, rfl, rfl, et, _, rfl, iteT ?_⟩
      refine ⟨_, rfl, a, _, 1, _, rfl, rfl, SqT.of ha, atI_nat (j := 1) rfl, _, rfl, a, _, 0, _, rfl, rfl, SqT.of ha, atI_nat (j := 0) rfl, _, rfl, a, _, 2, _, rfl, rfl, SqT.of ha, atI_nat (j := 2) rfl, (by show 3 ≤ sizeLine; decide), fun t ht => ?_⟩
      have s3 := same_upd ht (.tup [.str wr, .str k, .str f])
      have nlt : l ≠ t := ne_of_none hl2 ht
      refine ⟨bs, by rw [upd_ne nlt]; exact hl2, ?_, fun b ob hb => ?_, _, upd_same, ?_⟩
      · rw [hb2.1]
        exact small1000 (Nat.le_trans (boxesP_len _) (Nat.le_trans (List.length_take_le _ _) (by omega)))
      · rw [upd_ne (ne_of_none hb hl)]
        exact s3 _ _ (s2 _ _ hb)
      · have s4 : ∀ b xs, H2 b = some (.tup xs) → upd (upd H2 t (.tup [.str wr, .str k, .str f])) l (.lst (bs ++ [.ref t])) b = some (.tup xs) := fun b xs hb => by
          rw [upd_ne (ne_of hb hl2 (by intro z; cases z))]
          exact s3 _ _ hb
        refine All2.snoc (hb2.mono fun u v z => ?_) ⟨t, rfl, ?_⟩
        · obtain ⟨c, e, hc⟩ := z
          exact ⟨c, e, s4 _ _ hc⟩
        · rw [upd_ne nlt.symm]
          exact upd_same
    · obtain ⟨a, r, rfl, ha⟩ := pt.two
      refine ⟨rfl, _, rfl, a, _, 0, _, rfl, rfl, SqT.of ha, atI_nat (j := 0) rfl, kindP p, _, rfl, rfl, e0 _ k3, _, rfl, iteF ?_⟩
      rw [hb0, List.append_nil]
      exact ⟨s2, bs, hl2, hb2⟩
  · rw [pa.all.1, List.take_length] at hb2
    exact q l bs H2 s2 hl hl2 hb2
theorem ok_n_boxesU {f C fb : Addr} {fd db : FuncData} (F : Fun K "boxes" "Net.boxes" sN_boxes f fd) (C' : NetC K C) (GB : Df P w K mg base 1 fb db "boxes_in" ["plain"] spBoxesInU) : FnOk P w K mg base CX0 2 f fd ["self"] (spBoxesU C) := by
  refine F.ok scN_boxes (fun vs H Q E h => ?_) (fun cdv A outer s H vs Q E hr h => ?_)
  · obtain ⟨a, dx, p, fs, us, ps, rfl, _⟩ := h
    rfl
  obtain ⟨a, dx, p, fs, us, ps, rfl, ha, hf, pa, nus, q⟩ := h
  refine ⟨_, (pss_one (ps_ret (pe_call GB.ok (hr.mono (by decide)) (by rfl) GB.m GB.kp GB.b .nil pass0 (pa_cons (pe_fld (pv 0) rfl) pa_nil)))), ?_⟩
  exact ⟨_, rfl, a, C, dx, fs, _, rfl, ha, C'.cl, C'.m, hf, p, us, ps, rfl, pa, nus, q⟩
end
end Un
namespace Un
open PySem L2 TL
section
variable {P : Program} {w : World} {K : PySem.W.Frag} {mg : Str → Option Value} {base : Heap}
/-! ### names of wires within uses -/
theorem cps_app (a b : Str) : tl (a ++ b) = tl a ++ tl b := by
  show (a.cps ++ b.cps).toList = _
  simp [tl]
theorem str_ext {a b : Str} (h : tl a = tl b) : a = b := by
  cases a with
  | mk x =>
    cases b with
    | mk y =>
      have : x = y := Array.toList_inj.mp h
      rw [this]
theorem tl_slash (w z : Str) : tl (slash w z) = tl w ++ 47 :: tl z := by
  unfold slash
  rw [cps_app, cps_app, cps_app]
  show ([] ++ tl w) ++ [47] ++ tl z = _
  simp
/-- no name has a stroke in it -/
theorem slash_not_nm {w z : Str} : ¬ IsNm (slash w z) := fun h => by
  have := h.low 47 (by rw [tl_slash]; exact List.mem_append_right _ List.mem_cons_self)
  exact absurd this (by decide +kernel)
theorem split_at {c : Nat} : ∀ {l m l' m' : List Nat}, c ∉ l → c ∉ m → l ++ c :: l' = m ++ c :: m' → l = m ∧ l' = m'
  | [], [], l', m', _, _, h => ⟨rfl, (List.cons.inj h).2⟩
  | [], y :: m, l', m', _, hm, h => absurd (by rw [(List.cons.inj h).1]; exact List.mem_cons_self) hm
  | x :: l, [], l', m', hl, _, h => absurd (by rw [← (List.cons.inj h).1]; exact List.mem_cons_self) hl
  | x :: l, y :: m, l', m', hl, hm, h => by
    obtain ⟨e, h⟩ := List.cons.inj h
    obtain ⟨e1, e2⟩ := split_at (fun z => hl (List.mem_cons_of_mem _ z)) (fun z => hm (List.mem_cons_of_mem _ z)) h
    exact ⟨by rw [e, e1], e2⟩
theorem nm_no_stroke {w : Str} (h : IsNm w) : 47 ∉ tl w := fun m => absurd (h.low 47 m) (by decide +kernel)
theorem slash_inj {w w' z z' : Str} (h : IsNm w) (h' : IsNm w') (e : slash w z = slash w' z') : w = w' ∧ z = z' := by
  have e2 : tl (slash w z) = tl (slash w' z') := by rw [e]
  rw [tl_slash, tl_slash] at e2
  obtain ⟨e3, e4⟩ := split_at (nm_no_stroke h) (nm_no_stroke h') e2
  exact ⟨str_ext e3, str_ext e4⟩
theorem nmAt_not {w z : Str} {l : List (Str × Str)} (h : z ∉ l.map (·.1)) : nmAt w l z = slash w z := by
  unfold nmAt
  have : l.reverse.lookup z = none := by
    have hr : z ∉ l.reverse.map (·.1) := fun m => h (by
      obtain ⟨p, hp, e⟩ := List.mem_map.mp m
      exact List.mem_map.mpr ⟨p, List.mem_reverse.mp hp, e⟩)
    generalize l.reverse = m at hr
    induction m with
    | nil => rfl
    | cons p m ih =>
      rw [List.map_cons] at hr
      have n1 : ¬ z = p.1 := fun e => hr (by rw [e]; exact List.mem_cons_self)
      rw [List.lookup_cons, show (z == p.1) = false from beq_eq_false_iff_ne.mpr n1]
      exact ih fun m => hr (List.mem_cons_of_mem _ m)
  rw [this]
  rfl
/-- a net whose plain parts are as they should be -/
structure NDOk (D : ND) : Prop where
  nd : (wiresP D.qs).Nodup
  src : sourcesP D.qs = sourcesP D.ps
  nu : ∀ q ∈ D.qs, notUse q
theorem Pw_ren {nm : Str → Str} {p : Pt} (h : notUse p) : Pw (renP nm p) = nm (Pw p) := by
  cases p with
  | flat k w es => rfl
  | mix w ts => rfl
  | use w p es => exact False.elim h
/-- a wire that is no source's is no source's name -/
theorem not_source {D : ND} (h : NDOk D) {q : Pt} (hq : q ∈ D.qs) (hs : ¬ kindP q = "source") : Pw q ∉ sourcesP D.ps := fun m => by
  rw [← h.src] at m
  unfold sourcesP at m
  obtain ⟨r, hr, e⟩ := List.mem_map.mp m
  obtain ⟨hr1, hr2⟩ := List.mem_filter.mp hr
  have : r = q := by
    obtain ⟨i, hi⟩ := List.getElem?_of_mem hr1
    obtain ⟨j, hj⟩ := List.getElem?_of_mem hq
    have wi : (wiresP D.qs)[i]? = some (Pw r) := by rw [List.getElem?_map, hi]; rfl
    have wj : (wiresP D.qs)[j]? = some (Pw q) := by rw [List.getElem?_map, hj]; rfl
    have il := (List.getElem?_eq_some_iff.mp wi).1
    have e2 : i = j := by
      apply (List.getElem?_inj il h.nd).mp
      rw [wi, wj, e]
    rw [e2, hj] at hi
    exact (Option.some.inj hi).symm
  rw [this] at hr2
  exact hs (of_decide_eq_true hr2)
/-- the wires that a use makes -/
theorem use_wires {D : ND} (h : NDOk D) {w : Str} {es : List Str} : wiresP (usePlain w D es) = ((D.qs.filter fun q => !decide (kindP q = "source")).map fun q => slash w (Pw q)) ++ [w] := by
  unfold usePlain wiresP
  rw [List.map_append, List.map_map]
  congr 1
  refine List.map_congr_left fun q hq => ?_
  obtain ⟨h1, h2⟩ := List.mem_filter.mp hq
  have ns : ¬ kindP q = "source" := by simpa using h2
  show Pw (renP _ q) = _
  rw [Pw_ren (h.nu q h1)]
  refine nmAt_not fun m => not_source h h1 ns ?_
  unfold usePairs at m
  obtain ⟨p, hp, e⟩ := List.mem_map.mp m
  have := (List.of_mem_zip (a := p.1) (b := p.2) hp).1
  rw [e] at this
  exact this
def LibOk (lib : Str → Option ND) : Prop := ∀ z D, lib z = some D → NDOk D
theorem wires_in_unfold {lib : Str → Option ND} (lo : LibOk lib) {p : Pt} : ∀ y ∈ wiresP (unfoldU lib p), y = Pw p ∨ ∃ z, y = slash (Pw p) z := fun y hy => by
  cases p with
  | flat k w es => exact .inl (List.mem_singleton.mp hy)
  | mix w ts => exact .inl (List.mem_singleton.mp hy)
  | use w pn es =>
    cases e : lib pn with
    | none =>
      rw [show unfoldU lib (.use w pn es) = [] by simp only [unfoldU, e]] at hy
      cases hy
    | some D =>
      rw [show unfoldU lib (.use w pn es) = usePlain w D es by simp only [unfoldU, e], use_wires (lo pn D e)] at hy
      rcases List.mem_append.mp hy with h | h
      · obtain ⟨q, _, e2⟩ := List.mem_map.mp h
        exact .inr ⟨Pw q, e2.symm⟩
      · exact .inl (List.mem_singleton.mp h)
theorem nodup_unfold {lib : Str → Option ND} (lo : LibOk lib) {p : Pt} (hn : IsNm (Pw p)) : (wiresP (unfoldU lib p)).Nodup := by
  cases p with
  | flat k w es => exact show [w].Nodup by simp
  | mix w ts => exact show [w].Nodup by simp
  | use w pn es =>
    cases e : lib pn with
    | none =>
      rw [show unfoldU lib (.use w pn es) = [] by simp only [unfoldU, e]]
      exact List.nodup_nil
    | some D =>
      rw [show unfoldU lib (.use w pn es) = usePlain w D es by simp only [unfoldU, e], use_wires (lo pn D e)]
      have hw : IsNm w := hn
      refine List.nodup_append.mpr ⟨?_, (by simp), fun a ha b hb e2 => ?_⟩
      · have nd := (lo pn D e).nd
        have sub : ((D.qs.filter fun q => !decide (kindP q = "source")).map Pw).Nodup := (List.filter_sublist.map Pw).nodup nd
        rw [show (D.qs.filter fun q => !decide (kindP q = "source")).map (fun q => slash w (Pw q)) = ((D.qs.filter fun q => !decide (kindP q = "source")).map Pw).map (slash w) by rw [List.map_map]; rfl]
        generalize (D.qs.filter fun q => !decide (kindP q = "source")).map Pw = l at sub
        induction l with
        | nil => exact List.nodup_nil
        | cons z l ih =>
          rw [List.map_cons]
          have h := List.nodup_cons.mp sub
          refine List.nodup_cons.mpr ⟨fun m => ?_, ih h.2⟩
          obtain ⟨y, hy, e3⟩ := List.mem_map.mp m
          rw [(slash_inj hw hw e3).2] at hy
          exact h.1 hy
      · obtain ⟨q, _, e3⟩ := List.mem_map.mp ha
        rw [List.mem_singleton.mp hb] at e2
        rw [← e3] at e2
        exact slash_not_nm (by rw [e2]; exact hw)
theorem nodup_plainU {lib : Str → Option ND} (lo : LibOk lib) : ∀ {ps : List Pt}, (∀ p ∈ ps, IsNm (Pw p)) → (wiresP ps).Nodup → (wiresP (plainU lib ps)).Nodup
  | [], _, _ => List.nodup_nil
  | p :: ps, hn, nd => by
    show (List.map Pw (unfoldU lib p ++ plainU lib ps)).Nodup
    rw [List.map_append]
    have h := List.nodup_cons.mp (show (Pw p :: wiresP ps).Nodup from nd)
    refine List.nodup_append.mpr ⟨nodup_unfold lo (hn p List.mem_cons_self), nodup_plainU lo (fun q hq => hn q (List.mem_cons_of_mem _ hq)) h.2, fun a ha b hb e => ?_⟩
    rw [← e] at hb
    obtain ⟨r, hr, e1⟩ := List.mem_map.mp hb
    obtain ⟨q, hq, hr2⟩ := List.mem_flatMap.mp hr
    have np := hn p List.mem_cons_self
    have nq := hn q (List.mem_cons_of_mem _ hq)
    have ne : Pw p ≠ Pw q := fun z => h.1 (by rw [z]; exact List.mem_map.mpr ⟨q, hq, rfl⟩)
    have h1 := wires_in_unfold lo a ha
    have h2 := wires_in_unfold lo (p := q) a (by rw [← e1]; exact List.mem_map.mpr ⟨r, hr2, rfl⟩)
    rcases h1 with h1 | ⟨z, h1⟩
    · rcases h2 with h2 | ⟨y, h2⟩
      · exact ne (h1.symm.trans h2)
      · exact slash_not_nm (by rw [← h2, h1]; exact np)
    · rcases h2 with h2 | ⟨y, h2⟩
      · exact slash_not_nm (by rw [← h1, h2]; exact nq)
      · exact ne (slash_inj np nq (h1.symm.trans h2)).1
theorem nmAt_in {w z : Str} {l : List (Str × Str)} (h : z ∈ l.map (·.1)) : ∃ p ∈ l, nmAt w l z = p.2 := by
  have key : ∀ {m : List (Str × Str)}, z ∈ m.map (·.1) → ∃ p ∈ m, m.lookup z = some p.2 := by
    intro m
    induction m with
    | nil => intro h; cases h
    | cons p m ih =>
      intro h
      rw [List.lookup_cons]
      by_cases e : z = p.1
      · rw [show (z == p.1) = true from beq_iff_eq.mpr e]
        exact ⟨p, List.mem_cons_self, rfl⟩
      · rw [show (z == p.1) = false from beq_eq_false_iff_ne.mpr e]
        rw [List.map_cons] at h
        rcases List.mem_cons.mp h with h | h
        · exact absurd h e
        · obtain ⟨p', hp, e2⟩ := ih h
          exact ⟨p', List.mem_cons_of_mem _ hp, e2⟩
  obtain ⟨p, hp, e⟩ := key (m := l.reverse) (by
    obtain ⟨p, hp, e⟩ := List.mem_map.mp h
    exact List.mem_map.mpr ⟨p, List.mem_reverse.mpr hp, e⟩)
  refine ⟨p, List.mem_reverse.mp hp, ?_⟩
  unfold nmAt
  rw [e]
  rfl
theorem pairs_fst {D : ND} {w : Str} {es : List Str} (ok : UseOk D w es) : (usePairs D es).map (·.1) = sourcesP D.ps := by
  unfold usePairs
  exact List.map_fst_zip (Nat.le_of_eq ok.ln)
/-- a wire of a piece stands for an end, or for a wire of the use -/
theorem use_name {D : ND} (h : NDOk D) {w : Str} {es : List Str} (ok : UseOk D w es) {z : Str} (hz : z ∈ wiresP D.qs) : nmAt w (usePairs D es) z ∈ es ∨ nmAt w (usePairs D es) z ∈ wiresP (usePlain w D es) := by
  by_cases hs : z ∈ sourcesP D.ps
  · rw [← pairs_fst ok] at hs
    obtain ⟨p, hp, e⟩ := nmAt_in (w := w) hs
    rw [e]
    exact .inl (List.of_mem_zip (a := p.1) (b := p.2) hp).2
  · rw [nmAt_not (by rw [pairs_fst ok]; exact hs)]
    refine .inr ?_
    rw [use_wires h]
    obtain ⟨q, hq, rfl⟩ := List.mem_map.mp hz
    have ns : ¬ kindP q = "source" := fun k => hs (by
      rw [← h.src]
      exact List.mem_map.mpr ⟨q, List.mem_filter.mpr ⟨hq, decide_eq_true k⟩, rfl⟩)
    exact List.mem_append_left _ (List.mem_map.mpr ⟨q, List.mem_filter.mpr ⟨hq, by simpa using ns⟩, rfl⟩)
theorem ends_ren {nm : Str → Str} {p : Pt} (h : notUse p) : ∀ e ∈ endsP (renP nm p), ∃ z ∈ endsP p, e = nm z := fun e he => by
  cases p with
  | flat k w es =>
    cases es with
    | nil => cases he
    | cons f r =>
      obtain ⟨z, hz, rfl⟩ := List.mem_map.mp (show e ∈ r.map nm from he)
      exact ⟨z, hz, rfl⟩
  | mix w ts =>
    obtain ⟨t, ht, rfl⟩ := List.mem_map.mp (show e ∈ (ts.map fun t => (⟨t.n, t.d, nm t.a⟩ : Tm)).map (·.a) from he)
    obtain ⟨t', ht', rfl⟩ := List.mem_map.mp ht
    exact ⟨t'.a, List.mem_map.mpr ⟨t', ht', rfl⟩, rfl⟩
  | use w p es => exact False.elim h
theorem ends_use {D : ND} (h : NDOk D) {w : Str} {es : List Str} (ok : UseOk D w es) : ∀ r ∈ usePlain w D es, ∀ e ∈ endsP r, e ∈ es ∨ e ∈ wiresP (usePlain w D es) := fun r hr e he => by
  rcases List.mem_append.mp (show r ∈ _ ++ _ from hr) with hr | hr
  · obtain ⟨q, hq, rfl⟩ := List.mem_map.mp hr
    have hq := (List.mem_filter.mp hq).1
    obtain ⟨z, hz, rfl⟩ := ends_ren (h.nu q hq) e he
    exact use_name h ok (ok.ew q hq z hz)
  · rw [List.mem_singleton.mp hr] at he
    rw [List.mem_singleton.mp (show e ∈ [nmAt w (usePairs D es) (D.os.headD "")] from he)]
    obtain ⟨o1, r', e1, h1⟩ := ok.o1
    rw [e1]
    exact use_name h ok h1
theorem own_wire {lib : Str → Option ND} (lo : LibOk lib) {ps : List Pt} (uo : UsesOk lib ps) {p : Pt} (hp : p ∈ ps) : Pw p ∈ wiresP (unfoldU lib p) := by
  cases p with
  | flat k w es => exact List.mem_singleton.mpr rfl
  | mix w ts => exact List.mem_singleton.mpr rfl
  | use w pn es =>
    obtain ⟨D, e, _⟩ := uo w pn es hp
    rw [show unfoldU lib (.use w pn es) = usePlain w D es by simp only [unfoldU, e], use_wires (lo pn D e)]
    exact List.mem_append_right _ (List.mem_singleton.mpr rfl)
theorem wires_sub {lib : Str → Option ND} {ps : List Pt} {p : Pt} (hp : p ∈ ps) : ∀ y ∈ wiresP (unfoldU lib p), y ∈ wiresP (plainU lib ps) := fun y hy => by
  obtain ⟨r, hr, e⟩ := List.mem_map.mp hy
  exact List.mem_map.mpr ⟨r, List.mem_flatMap.mpr ⟨p, hp, hr⟩, e⟩
/-- the ends of all plain parts are among their wires -/
theorem ends_plainU {lib : Str → Option ND} (lo : LibOk lib) {ps : List Pt} (uo : UsesOk lib ps) (kn : ∀ p ∈ ps, ∀ e ∈ endsP p, e ∈ wiresP ps) : ∀ r ∈ plainU lib ps, ∀ e ∈ endsP r, e ∈ wiresP (plainU lib ps) := fun r hr e he => by
  have up : ∀ y ∈ wiresP ps, y ∈ wiresP (plainU lib ps) := fun y hy => by
    obtain ⟨p, hp, rfl⟩ := List.mem_map.mp hy
    exact wires_sub hp _ (own_wire lo uo hp)
  obtain ⟨p, hp, hr⟩ := List.mem_flatMap.mp hr
  cases p with
  | flat k w es =>
    rw [List.mem_singleton.mp hr] at he
    exact up e (kn _ hp e he)
  | mix w ts =>
    rw [List.mem_singleton.mp hr] at he
    exact up e (kn _ hp e he)
  | use w pn es =>
    obtain ⟨D, e1, ok, _⟩ := uo w pn es hp
    rw [show unfoldU lib (.use w pn es) = usePlain w D es by simp only [unfoldU, e1]] at hr
    rcases ends_use (lo pn D e1) ok r hr e he with h | h
    · exact up e (kn _ hp e h)
    · exact wires_sub hp e (by rw [show unfoldU lib (.use w pn es) = usePlain w D es by simp only [unfoldU, e1]]; exact h)
theorem leads_ren_len {nm : Str → Str} {q : Pt} (h : ShU q) (nu : notUse q) : (leadsP (renP nm q)).length ≤ 10 := by
  cases q with
  | flat k w es =>
    have := h.2.2.2.1
    show ((es.take 1 ++ (es.drop 1).map nm).drop 1).length ≤ 10
    rw [List.length_drop, List.length_append, List.length_map, List.length_take, List.length_drop]
    omega
  | mix w ts =>
    show (List.map _ ((ts.map fun t => (⟨t.n, t.d, nm t.a⟩ : Tm)).filter _)).length ≤ 10
    rw [List.length_map]
    exact Nat.le_trans (List.length_filter_le _ _) (by rw [List.length_map]; exact h.2.1)
  | use w p es => exact False.elim nu
theorem leads_use_len {D : ND} (hs : ∀ q ∈ D.qs, ShU q) (h : NDOk D) {w : Str} {es : List Str} : ∀ r ∈ usePlain w D es, (leadsP r).length ≤ 10 := fun r hr => by
  rcases List.mem_append.mp (show r ∈ _ ++ _ from hr) with hr | hr
  · obtain ⟨q, hq, rfl⟩ := List.mem_map.mp hr
    have hq := (List.mem_filter.mp hq).1
    exact leads_ren_len (hs q hq) (h.nu q hq)
  · rw [List.mem_singleton.mp hr]
    show (List.map _ ([(⟨1, 0, _⟩ : Tm)].filter _)).length ≤ 10
    rw [List.length_map]
    exact Nat.le_trans (List.length_filter_le _ _) (by show 1 ≤ 10; decide)
/-- the graph of the plain parts is one that can be searched for a ring -/
theorem gok_plainU {lib : Str → Option ND} (lo : LibOk lib) (ls : ∀ z D, lib z = some D → ∀ q ∈ D.qs, ShU q) {ps : List Pt} (hs : ∀ p ∈ ps, ShU p) (uo : UsesOk lib ps) (hn : ∀ p ∈ ps, IsNm (Pw p)) (nd : (wiresP ps).Nodup) (kn : ∀ p ∈ ps, ∀ e ∈ endsP p, e ∈ wiresP ps) (l24 : (plainU lib ps).length ≤ 24) : GOk (graphP (plainU lib ps)) := by
  refine ⟨by rw [graphP_keys]; exact nodup_plainU lo hn nd, fun z l hz => ?_, by unfold graphP; rw [List.length_map]; omega⟩
  obtain ⟨r, hr, e⟩ := List.mem_map.mp (lkp_mem hz)
  cases e
  refine ⟨?_, fun y hy => ?_⟩
  · obtain ⟨p, hp, hr2⟩ := List.mem_flatMap.mp hr
    cases p with
    | flat k w es =>
      rw [List.mem_singleton.mp hr2]
      exact leadsU_len (hs _ hp)
    | mix w ts =>
      rw [List.mem_singleton.mp hr2]
      exact leadsU_len (hs _ hp)
    | use w pn es =>
      obtain ⟨D, e1, ok, _⟩ := uo w pn es hp
      rw [show unfoldU lib (.use w pn es) = usePlain w D es by simp only [unfoldU, e1]] at hr2
      exact leads_use_len (ls pn D e1) (lo pn D e1) r hr2
  · rw [graphP_keys]
    exact ends_plainU lo uo kn r hr y (leads_sub y hy)
end
end Un
namespace Un
open PySem L2 TL
section
variable {P : Program} {w : World} {K : PySem.W.Frag} {mg : Str → Option Value} {base : Heap}
/-! ### what can be used as a piece -/
def LenP (m : Nat) : Pt → Prop
  | .flat _ w es => w.length ≤ m ∧ ∀ e ∈ es, e.length ≤ m
  | .mix w ts => w.length ≤ m ∧ ∀ t ∈ ts, t.a.length ≤ m
  | .use w _ es => w.length ≤ m ∧ ∀ e ∈ es, e.length ≤ m
theorem LenP.mono {m n : Nat} {p : Pt} (h : LenP m p) (l : m ≤ n) : LenP n p := by
  cases p with
  | flat k w es => exact ⟨Nat.le_trans h.1 l, fun e he => Nat.le_trans (h.2 e he) l⟩
  | mix w ts => exact ⟨Nat.le_trans h.1 l, fun e he => Nat.le_trans (h.2 e he) l⟩
  | use w p es => exact ⟨Nat.le_trans h.1 l, fun e he => Nat.le_trans (h.2 e he) l⟩
theorem LenP.wl {m : Nat} {p : Pt} (h : LenP m p) : (Pw p).length ≤ m := by
  cases p with
  | flat k w es => exact h.1
  | mix w ts => exact h.1
  | use w p es => exact h.1
theorem LenP.e {m : Nat} {p : Pt} (h : LenP m p) {z : Str} (hz : z ∈ endsP p) : z.length ≤ m := by
  cases p with
  | flat k w es => exact h.2 z (List.mem_of_mem_drop (show z ∈ es.drop 1 from hz))
  | mix w ts =>
    obtain ⟨t, ht, rfl⟩ := List.mem_map.mp (show z ∈ ts.map (·.a) from hz)
    exact h.2 t ht
  | use w p es => exact h.2 z hz
theorem LenP.of {p : Pt} (ok : OkP p) : LenP 4 p := by
  cases p with
  | flat k w es =>
    refine ⟨ok.1.l4, fun e he => ?_⟩
    rcases ok.2 with ⟨_, rfl⟩ | ⟨_, f, g, rfl, hf, hg⟩ | ⟨_, f, g, h, rfl, hf, hg, hh⟩
    · cases he
    · simp only [List.mem_cons, List.not_mem_nil, or_false] at he
      rcases he with rfl | rfl
      · exact hf.l4
      · exact hg.l4
    · simp only [List.mem_cons, List.not_mem_nil, or_false] at he
      rcases he with rfl | rfl | rfl
      · exact hf.l4
      · exact hg.l4
      · exact hh.l4
  | mix w ts => exact ⟨ok.1.l4, fun t ht => (ok.2.2 t ht).2.l4⟩
  | use w p es => exact ⟨ok.1.l4, fun e he => (ok.2.2.2 e he).l4⟩
theorem OkP.nm {p : Pt} (ok : OkP p) : IsNm (Pw p) := by
  cases p with
  | flat k w es => exact ok.1
  | mix w ts => exact ok.1
  | use w p es => exact ok.1
structure PieceOk (m : Nat) (D : ND) : Prop where
  nk : NDOk D
  sh : ∀ q ∈ D.qs, ShU q
  ln : ∀ q ∈ D.qs, LenP m q
  l24 : D.qs.length ≤ 24
  ew : ∀ q ∈ D.qs, ∀ z ∈ endsP q, z ∈ wiresP D.qs
  o1 : ∃ z r, D.os = z :: r ∧ z ∈ wiresP D.qs
theorem PieceOk.mono {m n : Nat} {D : ND} (h : PieceOk m D) (l : m ≤ n) : PieceOk n D := ⟨h.nk, h.sh, fun q hq => (h.ln q hq).mono l, h.l24, h.ew, h.o1⟩
def LibP (m : Nat) (lib : Str → Option ND) : Prop := ∀ z D, lib z = some D → PieceOk m D
theorem LibP.ok {m : Nat} {lib : Str → Option ND} (h : LibP m lib) : LibOk lib := fun z D e => (h z D e).nk
def UsesFine (lib : Str → Option ND) (ps : List Pt) : Prop := ∀ (j : Nat) (q : Pt), ps[j]? = some q → useFlt lib j q = none
theorem uses_ok {m : Nat} {lib : Str → Option ND} {ps : List Pt} (hl : LibP m lib) (hm : m ≤ 90) (hn : ∀ p ∈ ps, OkP p ∧ SmP p) (uf : UsesFine lib ps) : UsesOk lib ps := fun w p es hp => by
  obtain ⟨j, hj⟩ := List.getElem?_of_mem hp
  have h := uf j _ hj
  cases e : lib p with
  | none =>
    rw [useFlt_none e] at h
    cases h
  | some D =>
    rw [useFlt_some e] at h
    have pk := hl p D e
    by_cases hc : (sourcesP D.ps).length = es.length
    · refine ⟨D, rfl, ⟨hc, by have := (hn _ hp).1.1.l4; omega, fun z hz => ?_, pk.ew, pk.o1⟩, by have := pk.l24; omega⟩
      obtain ⟨q, hq, rfl⟩ := List.mem_map.mp hz
      have := (pk.ln q hq).wl
      omega
    · rw [if_neg hc] at h
      cases h
theorem nmAt_len {D : ND} {w : Str} {es : List Str} {z : Str} {m : Nat} (hw : w.length ≤ 4) (he : ∀ e ∈ es, e.length ≤ 4) (hz : z.length ≤ m) : (nmAt w (usePairs D es) z).length ≤ m + 5 := by
  by_cases h : z ∈ (usePairs D es).map (·.1)
  · obtain ⟨p, hp, e⟩ := nmAt_in (w := w) h
    rw [e]
    have := he p.2 (List.of_mem_zip (a := p.1) (b := p.2) hp).2
    omega
  · rw [nmAt_not h, slash_len]
    omega
theorem shU_ren {nm : Str → Str} {q : Pt} (h : ShU q) (nu : notUse q) (hn : ∀ z, z = Pw q ∨ z ∈ endsP q → (nm z).length ≤ 100) : ShU (renP nm q) := by
  cases q with
  | flat k w es =>
    obtain ⟨n1, n2, l1, l2, l3, l4⟩ := h
    refine ⟨n1, n2, hn w (.inl rfl), ?_, fun e he => ?_, ?_⟩
    · rw [List.length_append, List.length_map, List.length_take, List.length_drop]
      omega
    · rcases List.mem_append.mp he with he | he
      · exact l3 e (List.mem_of_mem_take he)
      · obtain ⟨z, hz, rfl⟩ := List.mem_map.mp he
        exact hn z (.inr hz)
    · rcases l4 with ⟨rfl, rfl⟩ | ⟨k4, f, e, r, rfl⟩
      · exact .inl ⟨rfl, rfl⟩
      · exact .inr ⟨k4, f, nm e, r.map nm, rfl⟩
  | mix w ts =>
    refine ⟨hn w (.inl rfl), by rw [List.length_map]; exact h.2.1, fun t ht => ?_⟩
    obtain ⟨t', ht', rfl⟩ := List.mem_map.mp ht
    exact hn t'.a (.inr (List.mem_map.mpr ⟨t', ht', rfl⟩))
  | use w p es => exact False.elim nu
theorem lenP_ren {nm : Str → Str} {q : Pt} {m n : Nat} (h : LenP m q) (l : m ≤ n) (nu : notUse q) (hn : ∀ z, z = Pw q ∨ z ∈ endsP q → (nm z).length ≤ n) : LenP n (renP nm q) := by
  cases q with
  | flat k w es =>
    refine ⟨hn w (.inl rfl), fun e he => ?_⟩
    rcases List.mem_append.mp he with he | he
    · exact Nat.le_trans (h.2 e (List.mem_of_mem_take he)) l
    · obtain ⟨z, hz, rfl⟩ := List.mem_map.mp he
      exact hn z (.inr hz)
  | mix w ts =>
    refine ⟨hn w (.inl rfl), fun t ht => ?_⟩
    obtain ⟨t', ht', rfl⟩ := List.mem_map.mp ht
    exact hn t'.a (.inr (List.mem_map.mpr ⟨t', ht', rfl⟩))
  | use w p es => exact False.elim nu
theorem ren_nu {nm : Str → Str} {q : Pt} (nu : notUse q) : notUse (renP nm q) := by
  cases q with
  | flat k w es => trivial
  | mix w ts => trivial
  | use w p es => exact False.elim nu
theorem ren_kind {nm : Str → Str} {q : Pt} : kindP (renP nm q) = kindP q := by
  cases q with
  | flat k w es => rfl
  | mix w ts => rfl
  | use w p es => rfl
theorem use_made {m : Nat} {D : ND} (pk : PieceOk m D) (hm : m ≤ 90) {w : Str} {es : List Str} (hw : w.length ≤ 4) (he : ∀ e ∈ es, e.length ≤ 4) : ∀ r ∈ usePlain w D es, ShU r ∧ LenP (m + 5) r ∧ notUse r ∧ ¬ kindP r = "source" := fun r hr => by
  rcases List.mem_append.mp (show r ∈ _ ++ _ from hr) with hr | hr
  · obtain ⟨q, hq, rfl⟩ := List.mem_map.mp hr
    obtain ⟨hq, ns⟩ := List.mem_filter.mp hq
    have ns : ¬ kindP q = "source" := by simpa using ns
    have nu := pk.nk.nu q hq
    have ln := pk.ln q hq
    have hz : ∀ z, z = Pw q ∨ z ∈ endsP q → (nmAt w (usePairs D es) z).length ≤ m + 5 := fun z h => nmAt_len hw he (h.elim (fun e => by rw [e]; exact ln.wl) fun h => ln.e h)
    exact ⟨shU_ren (pk.sh q hq) nu fun z h => by have := hz z h; omega, lenP_ren ln (by omega) nu hz, ren_nu nu, by rw [ren_kind]; exact ns⟩
  · rw [List.mem_singleton.mp hr]
    obtain ⟨z, r, e, hz⟩ := pk.o1
    have hl : (nmAt w (usePairs D es) (D.os.headD "")).length ≤ m + 5 := by
      rw [e]
      obtain ⟨q, hq, rfl⟩ := List.mem_map.mp hz
      exact nmAt_len hw he (pk.ln q hq).wl
    refine ⟨⟨by omega, by show 1 ≤ 10; decide, fun t ht => ?_⟩, ⟨by omega, fun t ht => ?_⟩, trivial, by show ¬ ("mix" : Str) = "source"; decide⟩
    · rw [List.mem_singleton.mp ht]
      show (nmAt w (usePairs D es) (D.os.headD "")).length ≤ 100
      omega
    · rw [List.mem_singleton.mp ht]
      exact hl
theorem made_parts {m : Nat} {lib : Str → Option ND} {ps : List Pt} (hl : LibP m lib) (hm : m ≤ 90) (hs : ∀ p ∈ ps, OkP p ∧ SmP p) : ∀ r ∈ plainU lib ps, ShU r ∧ LenP (m + 5) r ∧ notUse r := fun r hr => by
  obtain ⟨p, hp, hr⟩ := List.mem_flatMap.mp hr
  have ok := (hs p hp).1
  cases p with
  | flat k w es =>
    rw [List.mem_singleton.mp hr]
    exact ⟨ShU.of ok (hs _ hp).2, (LenP.of ok).mono (by omega), trivial⟩
  | mix w ts =>
    rw [List.mem_singleton.mp hr]
    exact ⟨ShU.of ok (hs _ hp).2, (LenP.of ok).mono (by omega), trivial⟩
  | use w pn es =>
    cases e : lib pn with
    | none =>
      rw [show unfoldU lib (.use w pn es) = [] by simp only [unfoldU, e]] at hr
      cases hr
    | some D =>
      rw [show unfoldU lib (.use w pn es) = usePlain w D es by simp only [unfoldU, e]] at hr
      obtain ⟨h1, h2, h3, _⟩ := use_made (hl pn D e) hm ok.1.l4 (fun e he => (ok.2.2.2 e he).l4) r hr
      exact ⟨h1, h2, h3⟩
theorem sourcesP_app {a b : List Pt} : sourcesP (a ++ b) = sourcesP a ++ sourcesP b := by
  unfold sourcesP
  rw [List.filter_append, List.map_append]
theorem made_sources {m : Nat} {lib : Str → Option ND} (hl : LibP m lib) (hm : m ≤ 90) : ∀ {ps : List Pt}, (∀ p ∈ ps, OkP p ∧ SmP p) → sourcesP (plainU lib ps) = sourcesP ps
  | [], _ => rfl
  | p :: ps, hs => by
    have ih := made_sources hl hm (ps := ps) fun q hq => hs q (List.mem_cons_of_mem _ hq)
    show sourcesP (unfoldU lib p ++ plainU lib ps) = sourcesP ([p] ++ ps)
    rw [sourcesP_app, sourcesP_app, ih]
    congr 1
    have ok := (hs p List.mem_cons_self).1
    cases p with
    | flat k w es => rfl
    | mix w ts => rfl
    | use w pn es =>
      have e2 : sourcesP [Pt.use w pn es] = [] := rfl
      rw [e2]
      cases e : lib pn with
      | none => rw [show unfoldU lib (.use w pn es) = [] by simp only [unfoldU, e]]; rfl
      | some D =>
        rw [show unfoldU lib (.use w pn es) = usePlain w D es by simp only [unfoldU, e]]
        unfold sourcesP
        rw [List.filter_eq_nil_iff.mpr fun r hr => by
          have := (use_made (hl pn D e) hm ok.1.l4 (fun e he => (ok.2.2.2 e he).l4) r hr).2.2.2
          simpa using this]
        rfl
/-- what is so of a net that was made -/
structure NetPOk (lib : Str → Option ND) (ps : List Pt) (os : List Str) : Prop where
  ok : ∀ p ∈ ps, OkP p ∧ SmP p
  l : ps.length ≤ 16
  nd : (wiresP ps).Nodup
  known : ∀ p ∈ ps, ∀ e ∈ endsP p, e ∈ wiresP ps
  oso : OsOk os
  outs : ∀ z ∈ os, z ∈ wiresP ps
  src : (sourcesP ps).length ≤ 4
  uses : UsesFine lib ps
  l24 : (plainU lib ps).length ≤ 24
  box : (boxesP (plainU lib ps)).length ≤ 8
  un : unlikeOf (boxesP (plainU lib ps)) = none
  ring : ∀ z, ¬ Rch (graphP (plainU lib ps)) z z
theorem up_wires {m : Nat} {lib : Str → Option ND} {ps : List Pt} (hl : LibP m lib) (hm : m ≤ 90) (hn : ∀ p ∈ ps, OkP p ∧ SmP p) (uf : UsesFine lib ps) : ∀ y ∈ wiresP ps, y ∈ wiresP (plainU lib ps) := fun y hy => by
  obtain ⟨p, hp, rfl⟩ := List.mem_map.mp hy
  exact wires_sub hp _ (own_wire hl.ok (uses_ok hl hm hn uf) hp)
theorem made_piece {m : Nat} {lib : Str → Option ND} {ps : List Pt} {os : List Str} (hl : LibP m lib) (hm : m ≤ 90) (h : NetPOk lib ps os) : PieceOk (m + 5) ⟨ps, plainU lib ps, os⟩ := by
  have mp := made_parts hl hm h.ok
  refine ⟨⟨nodup_plainU hl.ok (fun p hp => (h.ok p hp).1.nm) h.nd, made_sources hl hm h.ok, fun q hq => (mp q hq).2.2⟩, fun q hq => (mp q hq).1, fun q hq => (mp q hq).2.1, h.l24, ends_plainU hl.ok (uses_ok hl hm h.ok h.uses) h.known, ?_⟩
  have l1 := h.oso.l0
  cases os with
  | nil => exact absurd l1 (by show ¬ 1 ≤ 0; decide)
  | cons z r => exact ⟨z, r, rfl, up_wires hl hm h.ok h.uses z (h.outs z List.mem_cons_self)⟩
/-! ### a net with pieces -/
open XV
inductive FltP where
  | n (f : FltN)
  | piece (z : Str)
  | use (i : Nat)
  | wires
def errP (c : Ecs) (cU cI : Addr) : FltP → Addr × List (Str × V)
  | .n f => errN c f
  | .piece z => (cU, [("piece", .str z), ("code", .str "UnknownPiece")])
  | .use i => (cI, [("at", .int (i : Nat)), ("code", .str "InvalidUse")])
  | .wires => (c.T, tmF "wires" 24)
def UsesBad (lib : Str → Option ND) (ps : List Pt) (f : FltU) : Prop := ∃ (i : Nat) (p : Pt), ps[i]? = some p ∧ (∀ (j : Nat) q, j < i → ps[j]? = some q → useFlt lib j q = none) ∧ useFlt lib i p = some f
structure Ahead (ps : List Pt) (os : List Str) : Prop where
  l : ps.length ≤ 16
  w : wireFlt ps os = none
  s : (sourcesP ps).length ≤ 4
structure Ahead2 (lib : Str → Option ND) (ps : List Pt) (os : List Str) : Prop where
  a : Ahead ps os
  u : UsesFine lib ps
  l : (plainU lib ps).length ≤ 24
def netBadP (lib : Str → Option ND) (ps : List Pt) (os : List Str) : FltP → Prop
  | .n .parts => 16 < ps.length
  | .n (.dup w) => ps.length ≤ 16 ∧ wireFlt ps os = some (.dup w)
  | .n (.unk w) => ps.length ≤ 16 ∧ wireFlt ps os = some (.unk w)
  | .n .src => ps.length ≤ 16 ∧ wireFlt ps os = none ∧ 4 < (sourcesP ps).length
  | .piece z => Ahead ps os ∧ UsesBad lib ps (.piece z)
  | .use i => Ahead ps os ∧ UsesBad lib ps (.use i)
  | .wires => Ahead ps os ∧ UsesFine lib ps ∧ 24 < (plainU lib ps).length
  | .n .boxes => Ahead2 lib ps os ∧ 8 < (boxesP (plainU lib ps)).length
  | .n (.unlike f) => Ahead2 lib ps os ∧ (boxesP (plainU lib ps)).length ≤ 8 ∧ unlikeOf (boxesP (plainU lib ps)) = some f
  | .n (.ring z) => Ahead2 lib ps os ∧ (boxesP (plainU lib ps)).length ≤ 8 ∧ unlikeOf (boxesP (plainU lib ps)) = none ∧ Fst (graphP (plainU lib ps)) (.str z)
def XkP (a : Addr) (c : Ecs) (cU cI : Addr) (f : FltP) (H : Hp) (E : XK) : Prop := XkK a (errP c cU cI f).1 (errP c cU cI f).2 H E
structure NetPreU (ps : List Pt) (os : List Str) : Prop where
  ok : ∀ p ∈ ps, OkP p ∧ SmP p
  l : ps.length ≤ 24
  oso : OsOk os
/-- a net with these pieces stands at a -/
structure NetPA (H0 H : Hp) (C a : Addr) (us : List V) (lib : Str → Option ND) (ps : List Pt) (os : List Str) : Prop where
  ex : ∃ dx p o d m vs, H0 p = none ∧ H0 o = none ∧ H0 m = none ∧ H a = some (.ins C dx (netFs p o d m)) ∧ H p = some (.lst us) ∧ H o = some (.lst (os.map V.str)) ∧ PcAt H C d lib ∧ H m = some (.lst vs) ∧ All2 (PtAt H) vs (plainU lib ps)
  all : All2 (PtAt H) us ps
  ok : NetPOk lib ps os
theorem PsU.kp {a : Addr} {H H' : Hp} {o : Addr} {us : List V} {ps : List Pt} {C dx : Addr} {fs : List (Str × V)} (h : PsU H o us ps) (k : Kp a H H') (ha : H a = some (.ins C dx fs)) : PsU H' o us ps := ⟨k _ _ h.at_ (ne_of h.at_ ha (by intro z; cases z)), h.all.mono fun _ _ z => z.tups fun b xs hb => k _ _ hb (ne_of hb ha (by intro z; cases z)), h.ok, h.l⟩
theorem NetU.kp {a : Addr} {H H' : Hp} {C n : Addr} {D : ND} {dx : Addr} {C' : Addr} (h : NetU H C n D) (k : Kp a H H') (ha : H a = some (.ins C' dx [])) : NetU H' C n D := by
  obtain ⟨dx', p, o, d, m, us, vs, h1, h2, h3, h4, h5⟩ := h
  exact ⟨dx', p, o, d, m, us, vs, k _ _ h1 (ne_of h1 ha (by intro z; cases z)), h2.kp k ha, k _ _ h3 (ne_of h3 ha (by intro z; cases z)), h4.kp k ha, h5⟩
theorem PsU.kpI {a : Addr} {H H' : Hp} {o : Addr} {us : List V} {ps : List Pt} {C dx : Addr} {fs : List (Str × V)} (h : PsU H o us ps) (k : Kp a H H') (ha : H a = some (.ins C dx fs)) : PsU H' o us ps := h.kp k ha
theorem NetU.kpF {a : Addr} {H H' : Hp} {C n : Addr} {D : ND} {dx C' : Addr} {fs : List (Str × V)} (h : NetU H C n D) (k : Kp a H H') (ha : H a = some (.ins C' dx fs)) (hf : fs.length ≠ 4) : NetU H' C n D := by
  obtain ⟨dx', p, o, d, m, us, vs, h1, h2, h3, h4, h5⟩ := h
  exact ⟨dx', p, o, d, m, us, vs, k _ _ h1 (ne_of h1 ha (by intro z; injection z with _ _ z; exact hf (by rw [← z]; rfl))), h2.kp k ha, k _ _ h3 (ne_of h3 ha (by intro z; cases z)), h4.kp k ha, h5⟩
/-- what a dict's entries say of pieces -/
def LibAt (H : Hp) (C : Addr) (kvs : List (Key × V)) (lib : Str → Option ND) : Prop := ∀ z, match lib z with
  | none => valV kvs (Sum.inr z) = none
  | some D => ∃ a, valV kvs (Sum.inr z) = some (.ref a) ∧ NetU H C a D
theorem LibAt.mono {H H' : Hp} {C : Addr} {kvs : List (Key × V)} {lib : Str → Option ND} (h : LibAt H C kvs lib) (f : ∀ n D, NetU H C n D → NetU H' C n D) : LibAt H' C kvs lib := fun z => by
  have := h z
  cases e : lib z with
  | none =>
    rw [e] at this
    exact this
  | some D =>
    rw [e] at this
    obtain ⟨a, e1, e2⟩ := this
    exact ⟨a, e1, f _ _ e2⟩
theorem NetPA.netU {m : Nat} {H0 H : Hp} {C a : Addr} {us : List V} {lib : Str → Option ND} {ps : List Pt} {os : List Str} (h : NetPA H0 H C a us lib ps os) (hl : LibP m lib) (hm : m ≤ 90) : NetU H C a ⟨ps, plainU lib ps, os⟩ := by
  obtain ⟨dx, p, o, d, mm, vs, _, _, _, h1, h2, h3, h4, h5, h6⟩ := h.ex
  have mp := made_parts hl hm h.ok.ok
  exact ⟨dx, p, o, d, mm, us, vs, h1, ⟨h2, h.all, fun q hq => ShU.of (h.ok.ok q hq).1 (h.ok.ok q hq).2, by show ps.length ≤ 100; have := h.ok.l; omega⟩, h3, ⟨h5, h6, fun q hq => (mp q hq).1, by show (plainU lib ps).length ≤ 100; have := h.ok.l24; omega⟩, fun q hq => (mp q hq).2.2⟩
def PcsAt (H : Hp) (C : Addr) (z : V) (lib : Str → Option ND) : Prop := (z = .non ∧ ∀ y, lib y = none) ∨ ∃ pz, z = .ref pz ∧ PcAt H C pz lib
def spNetP (K : PySem.W.Frag) (C : Addr) (c : Ecs) (cP cO cU cI : Addr) : Sp := fun vs H Q E => ∃ (a dx px py : Addr) (z : V) (us : List V) (bs : List Bool) (ov : List V) (cs : List Bool) (m : Nat) (lib : Str → Option ND), vs = [.ref a, .ref px, .ref py, z] ∧ H a = some (.ins C dx []) ∧ (H px = some (.lst us) ∨ H px = some (.tup us)) ∧ All2 (PartR K H) us bs ∧ us.length ≤ 100 ∧ (H py = some (.lst ov) ∨ H py = some (.tup ov)) ∧ All2 (NmR K H) ov cs ∧ ov.length ≤ 100 ∧ PcsAt H C z lib ∧ LibP m lib ∧ m ≤ 90 ∧
  (∀ i : Nat, FirstF bs i → XkK a cP (atF "InvalidPart" i) H E) ∧
  (AllT bs → 16 < us.length → XkK a c.T (tmF "parts" 16) H E) ∧
  (AllT bs → us.length ≤ 16 → ∀ i : Nat, FirstF cs i → XkK a cO (atF "InvalidOuts" i) H E) ∧
  (AllT bs → us.length ≤ 16 → AllT cs → ¬ (1 ≤ ov.length ∧ ov.length ≤ 4) → XkK a cO (atF "InvalidOuts" ov.length) H E) ∧
  (AllT bs → us.length ≤ 16 → AllT cs → 1 ≤ ov.length → ov.length ≤ 4 → ∃ (ps : List Pt) (os : List Str), All2 (PtAt H) us ps ∧ ov = os.map V.str ∧ NetPreU ps os ∧ (∀ f, netBadP lib ps os f → XkP a c cU cI f H E) ∧ (NetPOk lib ps os → ∀ H', Kp a H H' → NetPA H H' C a us lib ps os → Q .non H'))
theorem ok_n_initP {f C cP cO cU cI fP fT fR fp fo fw fu ff fk fr fl fs fb : Addr} {c : Ecs} {fd dP dT dR dp d_o dw du df dk dr dl ds db : FuncData} {dvs : List V} {kws : List (Str × V)} {gP gT gR : List Value → List Value → List Value} (F : FunD K "__init__" "Net.__init__" (defArgs sN_init) (defBody sN_init) (defScope sN_init) dvs kws f fd) (C' : NetC K C) (T : NetTxt K w mg) (N : NiTxt mg)
    (GP : Df P w K mg base 5 fp dp "is_part" ["value"] (spAsk (PartR K))) (GO : DfX P w K mg base 3 fo d_o "check_outs" ["outs"] (spCkOutsX K cO)) (XP : Xr P w K mg base cP 1 fP dP "InvalidPart" ["self", "at"] (spI1 cP "InvalidPart" "at") gP) (GW : DfX P w K mg base 4 fw dw "check_wires" ["parts", "outs"] (spCkWiresU c.D c.U)) (XT : Xr P w K mg base c.T 2 fT dT "TooMany" ["self", "subject", "most"] (spI2 c.T "TooMany" "subject" "most") gT) (XR : Xr P w K mg base c.R 1 fR dR "Ring" ["self", "place"] (spI1 c.R "Ring" "place") gR) (GU : DfX P w K mg base 3 fu du "check_uses" ["parts", "pieces"] (spCkUsesU C cU cI))
    (GF : Df P w K mg base 3 ff df "plain_of" ["parts", "pieces"] (spPlainOfU C)) (GK : DfX P w K mg base 3 fk dk "check_kinds" ["boxes"] (spCkKindsX c.K)) (GR : Df P w K mg base 2 fr dr "first_on_ring" ["leads"] spFirst) (GL : Df P w K mg base 2 fl dl "leads_of" ["part"] (spStrsU notUse leadsP))
    (MS : Mt P w K mg base C 1 fs ds "sources" ["self"] (spStrOfU C "_parts" sourcesP)) (MB : Mt P w K mg base C 2 fb db "boxes" ["self"] (spBoxesU C)) :
    FnOk P w K mg base (L2.CX P w) 7 f fd netPs (spNetP K C c cP cO cU cI) := by
  refine F.ok scN_init (fun vs H Q E h => ?_) (fun cdv A outer s H vs Q E hr h => ?_)
  · obtain ⟨a, dx, px, py, z, us, bs, ov, cs, m, lib, rfl, _⟩ := h
    rfl
  obtain ⟨a, dx, px, py, z, us, bs, ov, cs, mm, lib, rfl, ha, hpx, hB, ul, hpy, hC, vl, hpc, hlp, hmm, q1, q2, q3, q4, q5⟩ := h
  obtain ⟨ts, msrc⟩ := N.src
  obtain ⟨tw, mwir⟩ := N.wir
  obtain ⟨um, hmost⟩ := C'.most
  obtain ⟨ub, hbox⟩ := C'.boxes
  have npx : px ≠ a := by rcases hpx with h | h <;> exact ne_of h ha (by intro z; cases z)
  have npy : py ≠ a := by rcases hpy with h | h <;> exact ne_of h ha (by intro z; cases z)
  refine ⟨_, (pss_cons (ps_fld (pv 0) (pe_callTy call_list_of (by rfl) N.list (by decide +kernel) (pa_cons (pv 1) pa_nil)) rfl)
 (pss_cons (ps_fld (pv 0) (pe_callTy call_list_of (by rfl) N.list (by decide +kernel) (pa_cons (pv 2) pa_nil)) rfl)
 (pss_cons (ps_fld (pv 0) (pe_ifExp (pt_cmpR op_isN (pv 3) pe_non (nomark _)) pe_dnewK (pe_callTy call_dictD (by rfl) N.dict (by decide +kernel) (pa_cons (pv 3) pa_nil))) rfl)
 (pss_cons (ps_for (passes_of rfl) rfl (pi_enum (by rfl) T.enum (pa_cons (pe_fld (pv 0) rfl) pa_nil)) (pg_tup (by rfl) (pgs_cons (pg_name (i := 4) scN_init.nd rfl (by first | exact Or.inl rfl | exact Or.inr rfl)) (pgs_cons (pg_name (i := 5) scN_init.nd rfl (by first | exact Or.inl rfl | exact Or.inr rfl)) pgs_nil)))
 (pss_one (ps_if (pt_not (pt_val (pe_call GP.ok (hr.mono (by decide)) (by rfl) GP.m GP.kp GP.b .nil pass0 (pa_cons (pv 5) pa_nil))))
 (pss_one (ps_raise rfl (takes_of rfl rfl rfl rfl) (ExR.pmk_exo rfl (pe_mkG XP.x (hr.mono (by decide)) (by rfl) XP.kb (pa_cons (pv 4) pa_nil)))))
 pss_nil)))
 (pss_cons (ps_if (pt_cmpR op_gt (pe_callB call_len_seq (by rfl) N.len PySem.boot_len (pa_cons (pe_fld (pv 0) rfl) pa_nil)) (pe_con (pv 0) rfl) (nomark _))
 (pss_one (ps_raise rfl (takes_of rfl rfl rfl rfl) (ExR.pmk_exo rfl (pe_mkG XT.x (hr.mono (by decide)) (by rfl) XT.kb (pa_cons pe_str (pa_cons (pe_con (pv 0) rfl) pa_nil))))))
 pss_nil)
 (pss_cons (ps_expr (pe_callS GO.ok (hr.mono (by decide)) (by rfl) GO.m GO.kp GO.b (fun σ => passAt (takes_of rfl rfl rfl rfl) σ) (pa_cons (pe_fld (pv 0) rfl) pa_nil)))
 (pss_cons (ps_expr (pe_callS GW.ok (hr.mono (by decide)) (by rfl) GW.m GW.kp GW.b (fun σ => passAt (takes_of rfl rfl rfl rfl) σ) (pa_cons (pe_fld (pv 0) rfl) (pa_cons (pe_fld (pv 0) rfl) pa_nil))))
 (pss_cons (ps_if (pt_cmpR op_gt (pe_callB call_len_seq (by rfl) N.len PySem.boot_len (pa_cons (pe_meth0 (pv 0) C'.cl MS.mt MS.ok (hr.mono (by decide)) MS.b .nil pass0) pa_nil)) (pe_glob (v := .int 4) (by rfl) msrc ⟨_, rfl⟩) (nomark _))
 (pss_one (ps_raise rfl (takes_of rfl rfl rfl rfl) (ExR.pmk_exo rfl (pe_mkG XT.x (hr.mono (by decide)) (by rfl) XT.kb (pa_cons pe_str (pa_cons (pe_glob (v := .int 4) (by rfl) msrc ⟨_, rfl⟩) pa_nil))))))
 pss_nil)
 (pss_cons (ps_expr (pe_callS GU.ok (hr.mono (by decide)) (by rfl) GU.m GU.kp GU.b (fun σ => passAt (takes_of rfl rfl rfl rfl) σ) (pa_cons (pe_fld (pv 0) rfl) (pa_cons (pe_fld (pv 0) rfl) pa_nil))))
 (pss_cons (ps_fld (pv 0) (pe_call GF.ok (hr.mono (by decide)) (by rfl) GF.m GF.kp GF.b .nil pass0 (pa_cons (pe_fld (pv 0) rfl) (pa_cons (pe_fld (pv 0) rfl) pa_nil))) rfl)
 (pss_cons (ps_if (pt_cmpR op_gt (pe_callB call_len_seq (by rfl) N.len PySem.boot_len (pa_cons (pe_fld (pv 0) rfl) pa_nil)) (pe_glob (v := .int 24) (by rfl) mwir ⟨_, rfl⟩) (nomark _))
 (pss_one (ps_raise rfl (takes_of rfl rfl rfl rfl) (ExR.pmk_exo rfl (pe_mkG XT.x (hr.mono (by decide)) (by rfl) XT.kb (pa_cons pe_str (pa_cons (pe_glob (v := .int 24) (by rfl) mwir ⟨_, rfl⟩) pa_nil))))))
 pss_nil)
 (pss_cons (ps_if (pt_cmpR op_gt (pe_callB call_len_seq (by rfl) N.len PySem.boot_len (pa_cons (pe_meth0 (pv 0) C'.cl MB.mt MB.ok (hr.mono (by decide)) MB.b .nil pass0) pa_nil)) (pe_con (pv 0) rfl) (nomark _))
 (pss_one (ps_raise rfl (takes_of rfl rfl rfl rfl) (ExR.pmk_exo rfl (pe_mkG XT.x (hr.mono (by decide)) (by rfl) XT.kb (pa_cons pe_str (pa_cons (pe_con (pv 0) rfl) pa_nil))))))
 pss_nil)
 (pss_cons (ps_expr (pe_callS GK.ok (hr.mono (by decide)) (by rfl) GK.m GK.kp GK.b (fun σ => passAt (takes_of rfl rfl rfl rfl) σ) (pa_cons (pe_meth0 (pv 0) C'.cl MB.mt MB.ok (hr.mono (by decide)) MB.b .nil pass0) pa_nil)))
 (pss_cons (ps_set (i := 6) scN_init.nd rfl (by first | exact Or.inl rfl | exact Or.inr rfl) (pe_call GR.ok (hr.mono (by decide)) (by rfl) GR.m GR.kp GR.b .nil pass0 (pa_cons (pe_dc (own := [("part", 5)]) (g := (gName 5)) rfl scN_init.nd (pi_list (pe_fld (pv 0) rfl)) (blkOk_by (own := [("part", 5)]) (N := ["self", "parts", "outs", "pieces", "at", "part", "place"]) (sc := defScope sN_init) (by decide +kernel)) (fun _ _ _ _ _ => (pg_name (i := 5) scN_init.nd rfl (Or.inl rfl) (Or.inr rfl))) (fun _ _ _ _ _ => pts_nil) (fun _ _ _ _ _ => (pe_ix (ixT (K := K) rfl) (pv 5) pe_int (fun _ _ => rfl))) (fun _ _ _ _ _ => (pe_call GL.ok (hr.mono (by decide)) (by rfl) GL.m GL.kp GL.b .nil pass0 (pa_cons (pv 5) pa_nil)))) pa_nil)))
 (pss_one (ps_if (pt_cmpR op_notN (pv 6) pe_non (nomark _))
 (pss_one (ps_raise rfl (takes_of rfl rfl rfl rfl) (ExR.pmk_exo rfl (pe_mkG XR.x (hr.mono (by decide)) (by rfl) XR.kb (pa_cons (pv 6) pa_nil)))))
 pss_nil)))))))))))))))), ?_⟩
  -- the fields
  refine ⟨_, rfl, px, us, rfl, hpx.elim (fun h => .inl (SqL.of h)) (fun h => .inr (SqT.of h)), fun p hp => ?_⟩
  have nap : a ≠ p := ne_of_none ha hp
  have frp : H p = none := hp
  refine ⟨_, rfl, a, C, dx, [], rfl, by rw [upd_ne nap]; exact ha, C'.cl, C'.p, (by show (0 : Nat) < 1000; decide), ?_⟩
  generalize hH1 : upd (upd H p (.lst us)) a (.ins C dx (putF "_parts" (.ref p) [])) = H1
  have k1 : Kp a H H1 := fun b ob hb n => by
    rw [← hH1, upd_ne n, upd_ne (ne_of_none hb hp)]
    exact hb
  have a1 : H1 a = some (.ins C dx [("_parts", .ref p)]) := by rw [← hH1]; exact upd_same
  have p1 : H1 p = some (.lst us) := by rw [← hH1, upd_ne nap.symm]; exact upd_same
  have hpy1 : H1 py = some (.lst (ov)) ∨ H1 py = some (.tup (ov)) := hpy.elim (fun h => .inl (k1 _ _ h npy)) (fun h => .inr (k1 _ _ h npy))
  refine ⟨_, rfl, py, ov, rfl, hpy1.elim (fun h => .inl (SqL.of h)) (fun h => .inr (SqT.of h)), fun o ho => ?_⟩
  have nao : a ≠ o := ne_of_none a1 ho
  have fro : H o = none := kp_none k1 a1 ho
  have npo : p ≠ o := ne_of_none p1 ho
  refine ⟨_, rfl, a, C, dx, _, rfl, by rw [upd_ne nao]; exact a1, C'.cl, C'.o, (by show (1 : Nat) < 1000; decide), ?_⟩
  generalize hH2 : upd (upd H1 o (.lst (ov))) a (.ins C dx (putF "_outs" (.ref o) [("_parts", .ref p)])) = H2
  have k2 : Kp a H1 H2 := fun b ob hb n => by
    rw [← hH2, upd_ne n, upd_ne (ne_of_none hb ho)]
    exact hb
  have a2 : H2 a = some (.ins C dx [("_parts", .ref p), ("_outs", .ref o)]) := by rw [← hH2]; exact upd_same
  have p2 : H2 p = some (.lst us) := k2 _ _ p1 nap.symm
  have o2 : H2 o = some (.lst (ov)) := by rw [← hH2, upd_ne nao.symm]; exact upd_same
  have lib2 : ∀ kvs, LibAt H C kvs lib → LibAt H2 C kvs lib := fun kvs h => h.mono fun n D u => u.kp (k1.trans k2) ha
  rcases hpc with ⟨rfl, hnone⟩ | ⟨pz, rfl, hpc⟩
  all_goals (
    first
    | (refine ⟨_, rfl, rfl, _, rfl, iteT ?_⟩
       intro d hd
       have hnew : ∃ kvs : List (Key × V), kvs = [] ∧ LibAt H2 C kvs lib := ⟨[], rfl, fun y => by rw [hnone y]; rfl⟩
       obtain ⟨kvs, hk, hlib2⟩ := hnew
       rw [← hk])
    | (obtain ⟨kvs, hpz, hlibs⟩ := hpc
       have hpz2 : H2 pz = some (.dK kvs) := (k1.trans k2) _ _ hpz (ne_of hpz ha (by intro z; cases z))
       have hlib2 : LibAt H2 C kvs lib := lib2 kvs hlibs
       refine ⟨_, rfl, rfl, _, rfl, iteF ?_⟩
       refine ⟨_, rfl, pz, kvs, rfl, .inl hpz2, fun d hd => ?_⟩)
    have nad : a ≠ d := ne_of_none a2 hd
    refine ⟨_, rfl, a, C, dx, _, rfl, by rw [upd_ne nad]; exact a2, C'.cl, C'.d, (by show (2 : Nat) < 1000; decide), ?_⟩
    generalize hH3 : upd (upd H2 d (.dK kvs)) a (.ins C dx (putF "_pieces" (.ref d) [("_parts", .ref p), ("_outs", .ref o)])) = H3
    have k3 : Kp a H2 H3 := fun b ob hb n => by
      rw [← hH3, upd_ne n, upd_ne (ne_of_none hb hd)]
      exact hb
    have a3 : H3 a = some (.ins C dx [("_parts", .ref p), ("_outs", .ref o), ("_pieces", .ref d)]) := by rw [← hH3]; exact upd_same
    have p3 : H3 p = some (.lst us) := k3 _ _ p2 nap.symm
    have o3 : H3 o = some (.lst (ov)) := k3 _ _ o2 nao.symm
    have d3 : H3 d = some (.dK kvs) := by rw [← hH3, upd_ne nad.symm]; exact upd_same
    have k03 : Kp a H H3 := (k1.trans k2).trans k3
    have tk3 : Tys K H H3 := k03.tys ha a3
    have up3 : Tups H H3 := fun b xs hb => k03 _ _ hb (ne_of hb ha (by intro z; cases z))
    have B3 : All2 (PartR K H3) us bs := hB.mono fun _ _ z => z.to tk3 up3
    have C3 : All2 (NmR K H3) ov cs := hC.mono fun _ _ z => z.to tk3
    -- the parts, one by one
    refine ⟨_, rfl, a, C, dx, _, _, rfl, a3, C'.cl, C'.p, rfl, p, us, rfl, SqL.of p3, ?_⟩
    refine for_it walk_enum (fun i σ H4 => (∃ v4 v5 v6, σ = [some (.ref a), some (.ref px), some (.ref py), some _, v4, v5, v6]) ∧ Same H3 H4 ∧ ∀ j : Nat, (j : Int) < i → bs[j]? = some true) ⟨⟨_, _, _, rfl⟩, Same.refl _, fun j hj => absurd hj (by omega)⟩ (fun i σ H4 _ h => SqL.of (h.2.1 _ _ p3)) ?_ ?_
    · rintro i v σ H4 H5 hi ⟨⟨v4, v5, v6, rfl⟩, s4, hp⟩ ⟨t, x, y, rfl, ht, rfl, hx, hy⟩
      cases hx
      have hy : us[i]? = some y := hy
      have hi' : i < us.length := (List.getElem?_eq_some_iff.mp hy).1
      obtain ⟨c, hc⟩ : ∃ c, bs[i]? = some c := ⟨bs[i]'(by rw [← hB.1]; exact hi'), List.getElem?_eq_getElem _⟩
      have s5 := s4.trans (same_upd ht (.tup [.int i, y]))
      refine ⟨t, _, rfl, SqT.of upd_same, rfl, _, _, rfl, _, _, rfl, rfl, ?_⟩
      refine ⟨_, rfl, y, c, rfl, (B3.2 i y c hy hc).to (Same.tys s5) (Same.tups s5), fun H6 s6 => ?_⟩
      have s56 := s5.trans s6
      cases c with
      | true =>
        refine ⟨_, rfl, iteF ⟨⟨_, _, _, rfl⟩, s56, fun j hj => ?_⟩⟩
        by_cases e : j = i
        · rw [e]
          exact hc
        · exact hp j (by omega)
      | false =>
        refine ⟨_, rfl, iteT ?_⟩
        refine ⟨_, rfl, rfl, rfl, (by decide), fun b hb => ?_⟩
        have k06 := k03.trans (Same.kp s56)
        exact mk_raise1F XP.x.T (fr0_none (show H b = none from kp_none k06 (s56 _ _ a3) hb)) hb fun d' H' s' hd' hd'' => XkK.to (q1 i ⟨hc, fun j hj => hp j (by omega)⟩) k06 (s56 _ _ a3) d' H' s' hd' hd''
    rintro σ H4 ⟨⟨v4, v5, v6, rfl⟩, s4, hp⟩
    have bt : AllT bs := allT_of hB.1.symm fun j hj => hp j (by omega)
    refine ⟨_, rfl, a, C, dx, _, _, rfl, s4 _ _ a3, C'.cl, C'.p, rfl, p, us, rfl, .inl (SqL.of (s4 _ _ p3)), _, rfl, a, C, dx, _, _, um, rfl, s4 _ _ a3, C'.cl, hmost, rfl, _, 16, rfl, rfl, _, rfl, ?_⟩
    by_cases h16 : us.length ≤ 16
    case neg =>
      rw [show decide (((us.length : Nat) : Int) > 16) = true from decide_eq_true (by omega)]
      refine iteT ?_
      refine ⟨_, rfl, a, C, dx, _, _, um, rfl, s4 _ _ a3, C'.cl, hmost, rfl, rfl, rfl, (by decide), fun b hb => ?_⟩
      have k07 := k03.trans (Same.kp s4)
      exact mk_raise2 XT.x.T (fr0_none (show H b = none from kp_none k07 (s4 _ _ a3) hb)) hb fun d' H' s' hd' hd'' => XkK.to (q2 bt (by omega)) k07 (s4 _ _ a3) d' H' s' hd' hd''
    rw [show decide (((us.length : Nat) : Int) > 16) = false from decide_eq_false (by omega)]
    refine iteF ?_
    refine ⟨_, rfl, a, C, dx, _, _, rfl, s4 _ _ a3, C'.cl, C'.o, rfl, o, ov, cs, rfl, s4 _ _ o3, C3.mono fun _ _ z => z.to (Same.tys s4), vl, ?_, ?_, ?_⟩
    · exact fun i hi => XkK.to (q3 bt h16 i hi) (k03.trans (Same.kp s4)) (s4 _ _ a3)
    · exact fun ct hl => XkK.to (q4 bt h16 ct hl) (k03.trans (Same.kp s4)) (s4 _ _ a3)
    intro ct l1 l4 H5 s5'
    obtain ⟨ps, os, hA, rfl, nk, bad, q⟩ := q5 bt h16 ct l1 l4
    have A3 : All2 (PtAt H3) us ps := hA.mono fun _ _ z => z.tups up3
    have ln : us.length = ps.length := A3.1
    have h16 : ps.length ≤ 16 := by omega
    have pl := nk.l
    have shu : ∀ p ∈ ps, ShU p := fun p hp => ShU.of (nk.ok p hp).1 (nk.ok p hp).2
    have pa3 : PsU H3 p us ps := ⟨p3, A3, shu, by omega⟩
    have lib3 : LibAt H3 C kvs lib := hlib2.mono fun n D u => u.kpF k3 a2 (by show ¬ (2 : Nat) = 4; decide)
    have pc3 : PcAt H3 C d lib := ⟨kvs, d3, lib3⟩
    have s5 := s4.trans s5'
    refine ⟨_, rfl, a, C, dx, _, _, rfl, s5 _ _ a3, C'.cl, C'.p, rfl, _, rfl, a, C, dx, _, _, rfl, s5 _ _ a3, C'.cl, C'.o, rfl, p, o, us, ps, os, rfl, pa3.same s5, s5 _ _ o3, ?_⟩
    have ka5 := k03.trans (Same.kp s5)
    cases hflt : wireFlt ps os with
    | some flt =>
      refine FltK.to (a := a) ?_ ka5 (s5 _ _ a3)
      cases flt with
      | dup w => exact bad (.n (.dup w)) ⟨h16, hflt⟩
      | unk w => exact bad (.n (.unk w)) ⟨h16, hflt⟩
    | none =>
    refine fun H6 s6' => ?_
    have s6 := s5.trans s6'
    refine ⟨_, rfl, a, dx, _, rfl, s6 _ _ a3, rfl, a, dx, p, _, us, ps, rfl, s6 _ _ a3, rfl, pa3.same s6, fun l H7 s7' hl hl7 => ?_⟩
    have s7 := s6.trans s7'
    refine ⟨l, _, rfl, .inl (SqL.of hl7), _, _, rfl, rfl, _, rfl, ?_⟩
    by_cases hsrc : (sourcesP ps).length ≤ 4
    case neg =>
      rw [show decide (((((sourcesP ps).map V.str).length : Nat) : Int) > 4) = true from decide_eq_true (by rw [List.length_map]; omega)]
      refine iteT ?_
      refine ⟨rfl, rfl, (by decide), fun b hb => ?_⟩
      have k07 := k03.trans (Same.kp s7)
      exact mk_raise2 XT.x.T (fr0_none (show H b = none from kp_none k07 (s7 _ _ a3) hb)) hb fun d' H' s' hd' hd'' => XkK.to (bad (.n .src) ⟨h16, hflt, by omega⟩) k07 (s7 _ _ a3) d' H' s' hd' hd''
    have ah : Ahead ps os := ⟨h16, hflt, hsrc⟩
    have wd := net_wired hflt
    rw [show decide (((((sourcesP ps).map V.str).length : Nat) : Int) > 4) = false from decide_eq_false (by rw [List.length_map]; omega)]
    refine iteF ?_
    refine ⟨_, rfl, a, C, dx, _, _, rfl, s7 _ _ a3, C'.cl, C'.p, rfl, _, rfl, a, C, dx, _, _, rfl, s7 _ _ a3, C'.cl, C'.d, rfl, p, d, us, ps, lib, rfl, pa3.same s7, pc3.same s7, fun i pp f hp he hf => ?_, fun uf H8 s8' => ?_⟩
    · have kk := k03.trans (Same.kp s7)
      cases f with
      | piece y => exact XkK.to (bad (.piece y) ⟨ah, i, pp, hp, he, hf⟩) kk (s7 _ _ a3)
      | use j => exact XkK.to (bad (.use j) ⟨ah, i, pp, hp, he, hf⟩) kk (s7 _ _ a3)
    have uf : UsesFine lib ps := uf
    have uo := uses_ok hlp hmm nk.ok uf
    have s8 := s7.trans s8'
    refine ⟨_, rfl, a, C, dx, _, _, rfl, s8 _ _ a3, C'.cl, C'.p, rfl, _, rfl, a, C, dx, _, _, rfl, s8 _ _ a3, C'.cl, C'.d, rfl, p, d, us, ps, lib, rfl, pa3.same s8, pc3.same s8, uo, fun m vs H9 s9' hm hm9 hA9 => ?_⟩
    have s9 := s8.trans s9'
    have frm : H m = none := kp_none (k03.trans (Same.kp s8)) (s8 _ _ a3) hm
    have nam : a ≠ m := ne_of_none (s8 _ _ a3) hm
    refine ⟨_, rfl, a, C, dx, _, rfl, s9 _ _ a3, C'.cl, C'.m, (by show (3 : Nat) < 1000; decide), ?_⟩
    generalize hH10 : upd H9 a (.ins C dx (putF "_plain" (.ref m) [("_parts", .ref p), ("_outs", .ref o), ("_pieces", .ref d)])) = H10
    have k10 : Kp a H9 H10 := fun b ob hb n => by
      rw [← hH10, upd_ne n]
      exact hb
    have a10 : H10 a = some (.ins C dx (netFs p o d m)) := by rw [← hH10]; exact upd_same
    have p10 : H10 p = some (.lst us) := k10 _ _ (s9 _ _ p3) nap.symm
    have o10 : H10 o = some (.lst (os.map V.str)) := k10 _ _ (s9 _ _ o3) nao.symm
    have d10 : H10 d = some (.dK kvs) := k10 _ _ (s9 _ _ d3) nad.symm
    have m10 : H10 m = some (.lst vs) := k10 _ _ hm9 nam.symm
    have tu10 : Tups H9 H10 := fun b xs hb => k10 _ _ hb (ne_of hb (s9 _ _ a3) (by intro z; cases z))
    have A10 : All2 (PtAt H10) us ps := (A3.mono fun _ _ z => z.tups (Same.tups s9)).mono fun _ _ z => z.tups tu10
    have B10 : All2 (PtAt H10) vs (plainU lib ps) := hA9.mono fun _ _ z => z.tups tu10
    have lib10 : LibAt H10 C kvs lib := (lib3.mono fun n D u => u.same s9).mono fun n D u => u.kpF k10 (s9 _ _ a3) (by show ¬ (3 : Nat) = 4; decide)
    have k010 : Kp a H H10 := (k03.trans (Same.kp s9)).trans k10
    have mp := made_parts hlp hmm nk.ok
    -- the plain net
    refine ⟨_, rfl, a, C, dx, _, _, rfl, a10, C'.cl, C'.m, rfl, m, vs, rfl, .inl (SqL.of m10), _, _, rfl, rfl, _, rfl, ?_⟩
    by_cases h24 : (plainU lib ps).length ≤ 24
    case neg =>
      rw [show decide (((vs.length : Nat) : Int) > 24) = true from decide_eq_true (by rw [B10.1]; omega)]
      refine iteT ?_
      refine ⟨rfl, rfl, (by decide), fun b hb => ?_⟩
      exact mk_raise2 XT.x.T (fr0_none (show H b = none from kp_none k010 a10 hb)) hb fun d' H' s' hd' hd'' => XkK.to (bad .wires ⟨ah, uf, by omega⟩) k010 a10 d' H' s' hd' hd''
    rw [show decide (((vs.length : Nat) : Int) > 24) = false from decide_eq_false (by rw [B10.1]; omega)]
    refine iteF ?_
    have ah2 : Ahead2 lib ps os := ⟨ah, uf, h24⟩
    have pam : PsU H10 m vs (plainU lib ps) := ⟨m10, B10, fun q hq => (mp q hq).1, by omega⟩
    have nus : ∀ q ∈ plainU lib ps, notUse q := fun q hq => (mp q hq).2.2
    refine ⟨_, rfl, a, dx, _, rfl, a10, rfl, a, dx, m, _, vs, plainU lib ps, rfl, a10, rfl, pam, nus, fun l2 bs H11 s11 hl2 hl11 hb11 => ?_⟩
    refine ⟨l2, _, rfl, .inl (SqL.of hl11), _, rfl, a, C, dx, _, _, ub, rfl, s11 _ _ a10, C'.cl, hbox, rfl, _, 8, rfl, rfl, _, rfl, ?_⟩
    by_cases hbx : (boxesP (plainU lib ps)).length ≤ 8
    case neg =>
      rw [show decide (((bs.length : Nat) : Int) > 8) = true from decide_eq_true (by rw [hb11.1]; omega)]
      refine iteT ?_
      refine ⟨_, rfl, a, C, dx, _, _, ub, rfl, s11 _ _ a10, C'.cl, hbox, rfl, rfl, rfl, (by decide), fun b hb => ?_⟩
      have k07 := k010.trans (Same.kp s11)
      exact mk_raise2 XT.x.T (fr0_none (show H b = none from kp_none k07 (s11 _ _ a10) hb)) hb fun d' H' s' hd' hd'' => XkK.to (bad (.n .boxes) ⟨ah2, by omega⟩) k07 (s11 _ _ a10) d' H' s' hd' hd''
    rw [show decide (((bs.length : Nat) : Int) > 8) = false from decide_eq_false (by rw [hb11.1]; omega)]
    refine iteF ?_
    refine ⟨_, rfl, a, dx, _, rfl, s11 _ _ a10, rfl, a, dx, m, _, vs, plainU lib ps, rfl, s11 _ _ a10, rfl, pam.same s11, nus, fun l3 bs3 H12 s12' hl3 hl12 hb12 => ?_⟩
    have s12 := s11.trans s12'
    refine ⟨l3, bs3, boxesP (plainU lib ps), rfl, hl12, hb12, by omega, ?_⟩
    cases hun : unlikeOf (boxesP (plainU lib ps)) with
    | some f => exact XkK.to (bad (.n (.unlike f)) ⟨ah2, hbx, hun⟩) (k010.trans (Same.kp s12)) (s12 _ _ a10)
    | none =>
    refine fun H13 s13' => ?_
    have s13 := s12.trans s13'
    have gok : GOk (graphP (plainU lib ps)) := gok_plainU hlp.ok (fun y D e q hq => (hlp y D e).sh q hq) shu uo (fun p hp => (nk.ok p hp).1.nm) wd.nd wd.known h24
    have ndp : (wiresP (plainU lib ps)).Nodup := nodup_plainU hlp.ok (fun p hp => (nk.ok p hp).1.nm) wd.nd
    -- no ring
    refine ⟨_, rfl, a, C, dx, _, _, rfl, s13 _ _ a10, C'.cl, C'.m, rfl, m, rfl, ⟨_, SqL.of (s13 _ _ m10)⟩, fun D hD => ?_⟩
    refine dc_lst (xs := vs) (fun i H2 => Same H13 H2 ∧ ∃ kvs, H2 D = some (.dK kvs) ∧ All2 (EntryAt H2) kvs (graphP ((plainU lib ps).take i))) ⟨same_upd hD _, [], upd_same, rfl, fun i u v hu => by cases hu⟩ (fun i H2 _ h => SqL.of (h.1 _ _ (s13 _ _ m10))) (fun i x H2 hx ⟨s2, kvs, hD2, hG2⟩ => ?_) (fun H2 ⟨s2, kvs, hD2, hG2⟩ => ?_)
    · obtain ⟨pp, hpp, pt, pok⟩ := (pam.same (s13.trans s2)).nth hx
      obtain ⟨b, r, rfl, hb⟩ := pt.two
      have hi := (List.getElem?_eq_some_iff.mp hpp).1
      have tk : (plainU lib ps).take (i + 1) = (plainU lib ps).take i ++ [pp] := by rw [List.take_add_one, hpp]; rfl
      refine ⟨rfl, _, rfl, b, _, 1, _, rfl, rfl, SqT.of hb, atI_nat (j := 1) rfl, _, rfl, .ref b, pp, rfl, pt, pok, nus pp (List.mem_of_getElem? hpp), fun l4 H4 s4 hl4 hl44 => ?_⟩
      have hw : (wiresP (plainU lib ps))[i]? = some (Pw pp) := by rw [List.getElem?_map, hpp]; rfl
      have hn : Pw pp ∉ (graphP ((plainU lib ps).take i)).map (·.1) := by
        rw [graphP_keys]
        have := nd_take ndp hw
        rw [← List.map_take] at this
        exact this
      have G4 : All2 (EntryAt H4) kvs (graphP ((plainU lib ps).take i)) := hG2.mono fun _ _ z => z.same s4
      refine ⟨kvs, Sum.inr (Pw pp), rfl, s4 _ _ hD2, ?_, fun c oc hc => ?_, kvs ++ [(Sum.inr (Pw pp), .ref l4)], ?_, ?_⟩
      · rw [hG2.1]
        unfold graphP
        rw [List.length_map]
        exact small1000 (Nat.le_trans (List.length_take_le _ _) (by omega))
      · rw [upd_ne (ne_of_none hc hD)]
        exact s4 _ _ (s2 _ _ hc)
      · rw [upd_same, putK_new _ (entries_none G4 hn)]
      · have nD : ∀ {e : Addr} {xs : List V}, H4 e = some (.lst xs) → e ≠ D := fun he => ne_of he (s4 _ _ hD2) (by intro z; cases z)
        rw [tk]
        unfold graphP
        rw [List.map_append]
        refine All2.snoc (G4.mono fun kv g z => ?_) ⟨rfl, l4, rfl, by rw [upd_ne (nD hl44)]; exact hl44⟩
        obtain ⟨e1, l, e2, hl⟩ := z
        exact ⟨e1, l, e2, by rw [upd_ne (nD hl)]; exact hl⟩
    rw [B10.1, List.take_length] at hG2
    refine ⟨D, _, graphP (plainU lib ps), rfl, hD2, hG2, gok, fun v H14 s14 fst => ?_⟩
    have s15 := (s13.trans s2).trans s14
    cases v with
    | str z =>
      refine ⟨_, rfl, rfl, _, rfl, iteT ?_⟩
      refine ⟨_, rfl, rfl, rfl, (by decide), fun b hb => ?_⟩
      have k15 := k010.trans (Same.kp s15)
      exact mk_raise1F XR.x.T (fr0_none (show H b = none from kp_none k15 (s15 _ _ a10) hb)) hb fun d' H' s' hd' hd'' => XkK.to (bad (.n (.ring z)) ⟨ah2, hbx, hun, fst⟩) k15 (s15 _ _ a10) d' H' s' hd' hd''
    | non =>
      refine ⟨_, rfl, rfl, _, rfl, iteF ?_⟩
      have ring : ∀ z, ¬ Rch (graphP (plainU lib ps)) z z := fun z r => by
        rcases fst with ⟨_, h⟩ | ⟨i, y, _, _, _, e⟩
        · by_cases hz : z ∈ (graphP (plainU lib ps)).map (·.1)
          · exact h z hz r
          · exact hz (r.key gok)
        · cases e
      have nok : NetPOk lib ps os := ⟨nk.ok, h16, wd.nd, wd.known, nk.oso, wd.outs, hsrc, uf, h24, hbx, hun, ring⟩
      exact q nok H14 (k010.trans (Same.kp s15)) ⟨⟨dx, p, o, d, m, vs, frp, fro, frm, s15 _ _ a10, s15 _ _ p10, s15 _ _ o10, ⟨_, s15 _ _ d10, lib10.mono fun n D u => u.same s15⟩, s15 _ _ m10, B10.mono fun _ _ z => z.tups (Same.tups s15)⟩, A10.mono fun _ _ z => z.tups (Same.tups s15), nok⟩
    | _ =>
      rcases fst with ⟨h, _⟩ | ⟨i, y, _, _, _, e⟩
      · cases h
      · cases e)
end
end Un
namespace Un
open PySem L2 TL
section
variable {P : Program} {w : World} {K : PySem.W.Frag} {mg : Str → Option Value} {base : Heap}
open XV
theorem perm_strs {ys : List V} {ws : List Str} (h : ys.Perm (ws.map V.str)) : ∃ zs : List Str, ys = zs.map V.str ∧ zs.Perm ws := by
  obtain ⟨zs, hz, ha⟩ := all2_perm (R := fun u z => u = V.str z) h (ps := ws) ⟨by rw [List.length_map], fun i x y hx hy => by
    rw [List.getElem?_map, hy] at hx
    cases hx
    rfl⟩
  refine ⟨zs, ?_, hz⟩
  apply List.ext_getElem?
  intro i
  rw [List.getElem?_map]
  cases e : zs[i]? with
  | none =>
    have h1 := List.getElem?_eq_none_iff.mp e
    rw [List.getElem?_eq_none (by rw [ha.1]; exact h1)]
    rfl
  | some z =>
    have hi := (List.getElem?_eq_some_iff.mp e).1
    have hy : ys[i]? = some (ys[i]'(by rw [ha.1]; exact hi)) := List.getElem?_eq_getElem _
    have hs : ys[i]? = some (V.str z) := by rw [hy, ha.2 i _ z hy e]
    rw [hs]
    rfl
theorem cut_from {ws : List Str} (n : Nat) (h : n ≤ ws.length) : cutV (ws.map V.str) (some (n : Int)) none = (ws.drop n).map V.str := by
  unfold cutV
  rw [HT.sIx_none, HT.sIx_nat, List.length_map, Nat.min_eq_left h, List.map_drop, List.take_of_length_le]
  rw [List.length_drop, List.length_map]
  exact Nat.le_refl _
theorem cutV_to {xs : List V} {k : Int} (h : 0 ≤ k) : cutV xs none (some k) = xs.take k.toNat := by
  obtain ⟨n, rfl⟩ : ∃ n : Nat, k = (n : Int) := ⟨k.toNat, by omega⟩
  unfold cutV
  rw [HT.sIx_none, HT.sIx_nat, List.drop_zero, Nat.sub_zero, Int.toNat_natCast, List.take_eq_take_iff]
  omega
theorem cutV_from {xs : List V} {k : Int} (h : 0 ≤ k) (hl : k.toNat ≤ xs.length) : cutV xs (some k) none = xs.drop k.toNat := by
  obtain ⟨n, rfl⟩ : ∃ n : Nat, k = (n : Int) := ⟨k.toNat, by omega⟩
  unfold cutV
  rw [HT.sIx_none, HT.sIx_nat, Int.toNat_natCast, Nat.min_eq_left (by simpa using hl), List.take_of_length_le]
  rw [List.length_drop]
  exact Nat.le_refl _
theorem all2_app {α β : Type} {R : α → β → Prop} {a c : List α} {b d : List β} (h : All2 R a b) (g : All2 R c d) : All2 R (a ++ c) (b ++ d) := by
  refine ⟨by rw [List.length_append, List.length_append, h.1, g.1], fun i x y hx hy => ?_⟩
  rw [List.getElem?_append] at hx hy
  by_cases lt : i < a.length
  · rw [if_pos lt] at hx
    rw [if_pos (by rw [← h.1]; exact lt)] at hy
    exact h.2 i x y hx hy
  · rw [if_neg lt] at hx
    rw [if_neg (by rw [← h.1]; exact lt), ← h.1] at hy
    exact g.2 _ x y hx hy
theorem all2_take {α β : Type} {R : α → β → Prop} {a : List α} {b : List β} (n : Nat) (h : All2 R a b) : All2 R (a.take n) (b.take n) := by
  refine ⟨by rw [List.length_take, List.length_take, h.1], fun i x y hx hy => ?_⟩
  rw [List.getElem?_take] at hx hy
  by_cases lt : i < n
  · rw [if_pos lt] at hx hy
    exact h.2 i x y hx hy
  · rw [if_neg lt] at hx
    cases hx
theorem all2_drop {α β : Type} {R : α → β → Prop} {a : List α} {b : List β} (n : Nat) (h : All2 R a b) : All2 R (a.drop n) (b.drop n) := by
  refine ⟨by rw [List.length_drop, List.length_drop, h.1], fun i x y hx hy => ?_⟩
  rw [List.getElem?_drop] at hx hy
  exact h.2 _ x y hx hy
theorem TabS_kp {H H' : Hp} {b c : Addr} {q : Addr} {s : Str} (B : Bag H b c) (k : Kp b H H') (t : LamX.TabS H q s) : LamX.TabS H' q s := by
  obtain ⟨ps, h1, h2, h3⟩ := t
  obtain ⟨xs, hb⟩ : ∃ xs, H b = some (.lst xs) := by
    obtain ⟨ns, p, r, s, k, B⟩ := B
    exact ⟨_, B.lb⟩
  refine ⟨ps, k _ _ h1 (ne_of h1 hb (by intro z; cases z)), h2, fun pos cv hc => ?_⟩
  obtain ⟨d, e1, e2⟩ := h3 pos cv hc
  exact ⟨d, e1, k _ _ e2 (ne_of e2 hb (by intro z; cases z))⟩
theorem Tabs_kp {T : List (Addr × Str)} {H H' : Hp} {b c : Addr} (B : Bag H b c) (k : Kp b H H') (t : LamX.Tabs T H) : LamX.Tabs T H' := fun p hp => TabS_kp B k (t p hp)
theorem Tabs_wr {T : List (Addr × Str)} {H : Hp} {q : Addr} {xs : List V} (hq : H q = some (.lst xs)) (t : LamX.Tabs T H) (ys : List V) : LamX.Tabs T (upd H q (.lst ys)) := fun p hp => by
  obtain ⟨ps, h1, h2, h3⟩ := t p hp
  refine ⟨ps, by rw [upd_ne (ne_of h1 hq (by intro z; cases z))]; exact h1, h2, fun pos cv hc => ?_⟩
  obtain ⟨d, e1, e2⟩ := h3 pos cv hc
  exact ⟨d, e1, by rw [upd_ne (ne_of e2 hq (by intro z; cases z))]; exact e2⟩
theorem Bag_ext {H H' : Hp} {b c : Addr} (B : Bag H b c) (e : LamX.ExtN H H') : Bag H' b c := by
  obtain ⟨ns, p, r, s, k, B⟩ := B
  exact ⟨ns, p, r, s, k, e _ _ B.lb (fun ps z => by cases z), e _ _ B.lc (fun ps z => by cases z), B.nl, B.p0, B.s0, B.s1, B.r0⟩
structure RangeTxt (mg : Str → Option Value) : Prop where
  range : mg "range" = none
theorem cut_upto {xs : List V} (n : Nat) : cutV xs none (some (n : Int)) = xs.take n := by
  unfold cutV
  rw [HT.sIx_none, HT.sIx_nat, List.drop_zero, Nat.sub_zero, List.take_eq_take_iff]
  omega
theorem cut_any (zs : List Str) (lo hi : Option Int) : ∃ ws : List Str, cutV (zs.map V.str) lo hi = ws.map V.str ∧ ws.length ≤ zs.length ∧ ∀ z ∈ ws, z ∈ zs := by
  refine ⟨(zs.drop (HT.sIx (zs.map V.str).length 0 lo)).take (HT.sIx (zs.map V.str).length (zs.map V.str).length hi - HT.sIx (zs.map V.str).length 0 lo), ?_, ?_, fun z hz => List.mem_of_mem_drop (List.mem_of_mem_take hz)⟩
  · unfold cutV
    rw [List.map_take, List.map_drop]
  · rw [List.length_take, List.length_drop]
    omega
theorem cut_head (zs : List Str) (n : Nat) : cutV (zs.map V.str) none (some (n : Int)) = (zs.take n).map V.str := by
  rw [cut_upto, List.map_take]
theorem getD_at {zs : List Str} {k : Nat} (h : k < zs.length) : zs[k]? = some (zs.getD k "") := by
  rw [List.getD_eq_getElem?_getD, List.getElem?_eq_getElem h]
  rfl
theorem eqv_told {H : Hp} {tf td t1 t1' : Addr} {code : Str} {due : List V} (n : Nat) (h1 : H tf = some (.tup [.str code, .ref t1'])) (h2 : H t1' = some (.tup due)) (h3 : H td = some (.tup [.str code, .ref t1])) (h4 : H t1 = some (.tup due)) (hl : due.length ≤ 2) (lf : ∀ z ∈ due, Leaf z) : Eqv H (n + 2) (.ref tf) (.ref td) := by
  refine .inr ⟨tf, td, [.str code, .ref t1'], [.str code, .ref t1], rfl, rfl, rfl, (by show 2 ≤ 100000; decide), .inr ⟨h1, h3⟩, fun i u v hu hv => ?_⟩
  match i, hu, hv with
  | 0, hu, hv =>
    cases hu
    cases hv
    exact Eqv.leaf (show Leaf (V.str code) from trivial) _
  | 1, hu, hv =>
    cases hu
    cases hv
    refine .inr ⟨t1', t1, due, due, rfl, rfl, rfl, by omega, .inr ⟨h2, h4⟩, fun i u v hu hv => ?_⟩
    rw [hu] at hv
    cases hv
    exact Eqv.leaf (lf u (List.mem_of_getElem? hu)) _
  | n + 2, hu, hv => cases hu
theorem all2_cons {α β : Type} {R : α → β → Prop} {x : α} {y : β} {xs : List α} {ys : List β} (h : R x y) (t : All2 R xs ys) : All2 R (x :: xs) (y :: ys) := by
  refine ⟨by rw [List.length_cons, List.length_cons, t.1], fun i a b ha hb => ?_⟩
  cases i with
  | zero =>
    cases ha
    cases hb
    exact h
  | succ i => exact t.2 i a b ha hb
theorem NmR.good {H : Hp} {z : Str} (h : IsNm z) : NmR K H (.str z) true := .inl ⟨z, rfl, nm_len h, h.b.symm⟩
theorem all_of {n : Nat} : (List.replicate n true).all id = true := by
  induction n with
  | zero => rfl
  | succ n ih => rw [List.replicate_succ, List.all_cons, ih]; rfl
theorem all2_rep {α : Type} {R : α → Bool → Prop} {xs : List α} (h : ∀ x ∈ xs, R x true) : All2 R xs (List.replicate xs.length true) := by
  refine ⟨by rw [List.length_replicate], fun i x b hx hb => ?_⟩
  have hb := List.mem_of_getElem? hb
  rw [(List.mem_replicate.mp hb).2]
  exact h x (List.mem_of_getElem? hx)
theorem term_good {H : Hp} {v : V} {t : Tm} (h : TmAt H v t) (s : SmT t) (n : IsNm t.a) : TermR K H v true := by
  obtain ⟨a, rfl, ha⟩ := h
  have := TermR.of (K := K) (b1 := true) (b2 := true) (b3 := true) ha (.inl ⟨_, rfl, by rw [decide_eq_true s.n0, decide_eq_true s.n1]; rfl⟩) (.inl ⟨_, rfl, by rw [decide_eq_true s.d0, decide_eq_true s.d1]; rfl⟩) (.good n)
  exact this
theorem part_good {H : Hp} {v : V} {p : Pt} (h : PtAt H v p) (ok : OkP p) (nu : notUse p) : PartR K H v true := by
  cases p with
  | use w p es => exact False.elim nu
  | mix wr ts =>
    obtain ⟨a, b, us, rfl, ha, hb, hA⟩ := h
    obtain ⟨hw, hl, ht⟩ := ok
    have e : All2 (TermR K H) us (List.replicate us.length true) := all2_rep fun x hx => by
      obtain ⟨i, hi⟩ := List.getElem?_of_mem hx
      have il := (List.getElem?_eq_some_iff.mp hi).1
      obtain ⟨t, et⟩ : ∃ t, ts[i]? = some t := ⟨ts[i]'(by rw [← hA.1]; exact il), List.getElem?_eq_getElem _⟩
      have hm := List.mem_of_getElem? et
      exact term_good (hA.2 i x t hi et) (ht t hm).1 (ht t hm).2
    have := TermsR.of hb (by rw [hA.1]; exact hl) e
    rw [all_of] at this
    exact PartR.of ha (by show 1 ≤ 100; decide) (.good hw) (.mix this)
  | flat k wr ns =>
    obtain ⟨a, rfl, ha⟩ := h
    obtain ⟨hw, hk⟩ := ok
    have nms : (∀ z ∈ ns, IsNm z) → All2 (NmR K H) (ns.map V.str) (List.replicate (ns.map V.str).length true) := fun hz => all2_rep fun x hx => by
      obtain ⟨z, hm, rfl⟩ := List.mem_map.mp hx
      exact .good (hz z hm)
    have boxed : k ∈ kinds4 → ns.length = (if k = "pair" then 3 else 2) → (∀ z ∈ ns, IsNm z) → PartR K H (.ref a) true := fun k4 hl hz => by
      have := ItemsR.box (K := K) (H := H) k4 (by rw [List.length_map]; exact hl) (nms hz)
      rw [all_of] at this
      exact PartR.of ha (by rw [List.length_map, hl]; split <;> omega) (.good hw) this
    rcases hk with ⟨rfl, rfl⟩ | ⟨hk, f, e, rfl, h1, h2⟩ | ⟨rfl, f, e, g, rfl, h1, h2, h3⟩
    · exact PartR.of ha (by show 0 ≤ 100; decide) (.good hw) (by exact ItemsR.src)
    · refine boxed (by rcases hk with rfl | rfl | rfl <;> decide) ?_ fun z hz => ?_
      · rw [if_neg (by rcases hk with rfl | rfl | rfl <;> decide)]
        rfl
      · simp only [List.mem_cons, List.not_mem_nil, or_false] at hz
        rcases hz with rfl | rfl
        · exact h1
        · exact h2
    · refine boxed (by decide) (by rw [if_pos rfl]; rfl) fun z hz => ?_
      simp only [List.mem_cons, List.not_mem_nil, or_false] at hz
      rcases hz with rfl | rfl | rfl
      · exact h1
      · exact h2
      · exact h3
/-- an error class that `_law_why` tells -/
structure ErC (K : PySem.W.Frag) (cs : List Value) (C : Addr) : Prop where
  xf : XfC K C
  at_ : ∀ n ∈ attrsX, PySem.W.findIn K (.ref C) n = some none
  ex : PySem.W.exmAny K (.ref C) cs = some true
theorem ixL {X : Cx} {K : PySem.W.Frag} (h : X.K = K) : IxR X (rIxL K) := h ▸ ix_list
theorem slL {X : Cx} {K : PySem.W.Frag} (h : X.K = K) : SlR X (rSlL K) := h ▸ sl_list
def rTupOf (K : PySem.W.Frag) : List V → Hp → VK → Prop := fun xs H Q => ∃ p ys, xs = [V.ref p] ∧ ((SqL K H p ys ∧ ∀ l, H l = none → Q (.ref l) (upd H l (.tup ys))) ∨ SqT K H p ys ∧ Q (.ref p) H)
theorem tupOf {X : Cx} {K : PySem.W.Frag} (h : X.K = K) : CallR X (.type "tuple") (rTupOf K) := h ▸ call_tuple_of
theorem passNo {X : Cx} : Passes (L2.CX P w) X E0 := fun pins σ H s e s' _ h => by
  obtain ⟨_, _, _, _, _, _, _, _, _, _, _, _, h⟩ := h
  exact h.elim
def ToldE (H : Hp) (tf : Addr) (code : Str) (due : List V) : Prop := ∃ t1, H tf = some (.tup [.str code, .ref t1]) ∧ H t1 = some (.tup due)
theorem ToldE.same {H H' : Hp} {tf : Addr} {code : Str} {due : List V} (h : ToldE H tf code due) (s : Same H H') : ToldE H' tf code due := by
  obtain ⟨t1, h1, h2⟩ := h
  exact ⟨t1, s _ _ h1, s _ _ h2⟩
theorem ToldE.kp {H H' : Hp} {b c tf : Addr} {code : Str} {due : List V} (h : ToldE H tf code due) (B : Bag H b c) (k : Kp b H H') : ToldE H' tf code due := by
  obtain ⟨t1, h1, h2⟩ := h
  exact ⟨t1, k.tups B _ _ h1, k.tups B _ _ h2⟩
/-! ### heaps beside a table of code objects -/
def KpN (b : Addr) (H H' : Hp) : Prop := ∀ a o, H a = some o → a ≠ b → (∀ ps, o ≠ .tbl ps) → H' a = some o
def FreeN (b : Addr) (H : Hp) (p : Addr) : Prop := ∀ o, H p = some o → p = b ∨ ∃ ps, o = .tbl ps
namespace KpN
theorem refl (b : Addr) (H : Hp) : KpN b H H := fun _ _ h _ _ => h
theorem kp {b : Addr} {H H1 H2 : Hp} (k : KpN b H H1) (k2 : Kp b H1 H2) : KpN b H H2 := fun a o h n z => k2 _ _ (k _ _ h n z) n
theorem ext {b : Addr} {H H1 H2 : Hp} (k : KpN b H H1) (e : LamX.ExtN H1 H2) : KpN b H H2 := fun a o h n z => e _ _ (k _ _ h n z) z
theorem same {b : Addr} {H H1 H2 : Hp} (k : KpN b H H1) (s : Same H1 H2) : KpN b H H2 := fun a o h n z => s _ _ (k _ _ h n z)
theorem lst {b a : Addr} {H H1 : Hp} {xs : List V} (k : KpN b H H1) (h : H a = some (.lst xs)) (n : a ≠ b) : H1 a = some (.lst xs) := k _ _ h n fun _ z => nomatch z
theorem free {b p : Addr} {H H1 : Hp} (k : KpN b H H1) (h : H1 p = none) : FreeN b H p := fun o ho => by
  by_cases e : p = b
  · exact .inl e
  · by_cases t : ∃ ps, o = .tbl ps
    · exact .inr t
    · have := k _ _ ho e fun ps z => t ⟨ps, z⟩
      rw [h] at this
      cases this
theorem wr {b p : Addr} {H H1 : Hp} (k : KpN b H H1) (f : FreeN b H p) (o : HO) : KpN b H (upd H1 p o) := fun a u h n z => by
  have : a ≠ p := fun e => by
    rw [e] at h n
    rcases f u h with e2 | ⟨ps, e2⟩
    · exact n e2
    · exact z ps e2
  rw [upd_ne this]
  exact k _ _ h n z
theorem tups {b c : Addr} {H H1 : Hp} (k : KpN b H H1) (B : Bag H b c) : Tups H H1 := fun a xs h => by
  obtain ⟨ns, p, r, s, kk, B⟩ := B
  exact k _ _ h (ne_of h B.lb fun z => nomatch z) fun _ z => nomatch z
theorem tys {b c : Addr} {H H1 : Hp} (k : KpN b H H1) (B : Bag H b c) (B' : Bag H1 b c) : Tys K H H1 := fun x t q => by
  obtain ⟨ns, p, r, s, kk, B⟩ := B
  obtain ⟨ns', p', r', s', kk', B'⟩ := B'
  have hb := B.lb
  have kx : ∀ e o, H e = some o → (∀ z, o ≠ .lst z) → (∀ ps, o ≠ .tbl ps) → H1 e = some o := fun e o he n => k _ _ he (fun z => by rw [z, hb] at he; exact n _ (Option.some.inj he).symm)
  cases q with
  | byt b => exact .byt b
  | set e => exact .set (kx _ _ e (fun _ z => nomatch z) fun _ z => nomatch z)
  | kList e c => exact .kList e c
  | kTuple e c => exact .kTuple e c
  | kDict e c => exact .kDict e c
  | fTuple e => exact .fTuple (kx _ _ e (fun _ z => nomatch z) fun _ z => nomatch z)
  | fDict e => exact .fDict (kx _ _ e (fun _ z => nomatch z) fun _ z => nomatch z)
  | base q =>
    refine .base ?_
    cases q with
    | non => exact .non
    | bl x => exact .bl x
    | int i => exact .int i
    | str x => exact .str x
    | flt x => exact .flt x
    | @lst a xs e =>
      by_cases z : a = b
      · rw [z]
        exact .lst B'.lb
      · exact .lst (k _ _ e z fun _ z => nomatch z)
    | frz e => exact .frz (kx _ _ e (fun _ z => nomatch z) fun _ z => nomatch z)
    | tup e => exact .tup (kx _ _ e (fun _ z => nomatch z) fun _ z => nomatch z)
    | dK e => exact .dK (kx _ _ e (fun _ z => nomatch z) fun _ z => nomatch z)
    | dT e => exact .dT (kx _ _ e (fun _ z => nomatch z) fun _ z => nomatch z)
    | ins e a b c d f => exact .ins (kx _ _ e (fun _ z => nomatch z) fun _ z => nomatch z) a b c d f
end KpN
/-- what stands while a list of answers grows -/
structure Inv12 (T : List (Addr × Str)) (b c : Addr) (G0 G : Hp) (fo : Addr) (xs : List V) : Prop where
  k : KpN b G0 G
  B : Bag G b c
  n : b ≠ fo ∧ c ≠ fo
  f : FreeN b G0 fo
  t : LamX.Tabs T G
  l : G fo = some (.lst xs)
namespace Inv12
variable {T : List (Addr × Str)} {b c fo : Addr} {G0 G G' : Hp} {xs ys : List V}
theorem new (k : KpN b G0 G) (B : Bag G b c) (t : LamX.Tabs T G) (h : G fo = none) : Inv12 T b c G0 (upd G fo (.lst xs)) fo xs :=
  ⟨k.same (same_upd h _), B.upd_new h _, B.ne_new h, k.free h, t.ext (same_upd h _), upd_same⟩
theorem app (i : Inv12 T b c G0 G fo xs) : Inv12 T b c G0 (upd G fo (.lst ys)) fo ys :=
  ⟨i.k.wr i.f _, i.B.wr i.n _, i.n, i.f, Tabs_wr i.l i.t _, upd_same⟩
theorem same (i : Inv12 T b c G0 G fo xs) (s : Same G G') : Inv12 T b c G0 G' fo xs := ⟨i.k.same s, i.B.same s, i.n, i.f, i.t.ext s, s _ _ i.l⟩
theorem ext (i : Inv12 T b c G0 G fo xs) (e : LamX.ExtN G G') (t : LamX.Tabs T G') : Inv12 T b c G0 G' fo xs := ⟨i.k.ext e, Bag_ext i.B e, i.n, i.f, t, e _ _ i.l fun _ z => nomatch z⟩
theorem kp (i : Inv12 T b c G0 G fo xs) (k : Kp b G G') (B' : Bag G' b c) : Inv12 T b c G0 G' fo xs := ⟨i.k.kp k, B', i.n, i.f, Tabs_kp i.B k i.t, k _ _ i.l i.n.1.symm⟩
end Inv12
theorem ToldE.wr {H : Hp} {tf fo : Addr} {xs : List V} {code : Str} {due : List V} (h : ToldE H tf code due) (e : H fo = some (.lst xs)) (o : HO) : ToldE (upd H fo o) tf code due := by
  obtain ⟨t1, h1, h2⟩ := h
  exact ⟨t1, by rw [upd_ne (ne_of h1 e fun z => nomatch z)]; exact h1, by rw [upd_ne (ne_of h2 e fun z => nomatch z)]; exact h2⟩
theorem ToldE.ext {H H' : Hp} {tf : Addr} {code : Str} {due : List V} (h : ToldE H tf code due) (e : LamX.ExtN H H') : ToldE H' tf code due := by
  obtain ⟨t1, h1, h2⟩ := h
  exact ⟨t1, e _ _ h1 (fun _ z => nomatch z), e _ _ h2 (fun _ z => nomatch z)⟩
/-! ### a net that is refused -/
theorem FirstF.uniq {cs : List Bool} {i j : Nat} (h : FirstF cs i) (g : FirstF cs j) : i = j := by
  rcases Nat.lt_trichotomy i j with l | e | l
  · have := g.2 i l
    rw [h.1] at this
    cases this
  · exact e
  · have := h.2 j l
    rw [g.1] at this
    cases this
theorem FirstF.notAll {cs : List Bool} {i : Nat} (h : FirstF cs i) (a : AllT cs) : False := by
  have := a _ (List.mem_of_getElem? h.1)
  cases this
theorem FirstF.app {cs ds : List Bool} {i : Nat} (h : FirstF cs i) : FirstF (cs ++ ds) i := by
  have hi := (List.getElem?_eq_some_iff.mp h.1).1
  exact ⟨by rw [List.getElem?_append_left hi]; exact h.1, fun j hj => by rw [List.getElem?_append_left (by omega)]; exact h.2 j hj⟩
theorem FirstF.mid {n : Nat} {cs : List Bool} : FirstF (List.replicate n true ++ [false] ++ cs) n := by
  refine FirstF.app ⟨?_, fun j hj => ?_⟩
  · rw [List.getElem?_append_right (by rw [List.length_replicate]; exact Nat.le_refl _), List.length_replicate, Nat.sub_self]
    rfl
  · rw [List.getElem?_append_left (by rw [List.length_replicate]; exact hj), List.getElem?_replicate, if_pos hj]
theorem allT_rep {n : Nat} : AllT (List.replicate n true) := fun b hb => (List.mem_replicate.mp hb).2
theorem told_xk {css : List Value} {y CE : Addr} {fs : List (Str × V)} {code : Str} {due : List V} {J J6 : Hp} (eC : ErC K css CE) (hcode : fs.lookup ("code" : Str) = some (.str code)) (hdue : DueOf fs code due) (kx : ∀ {G : Hp}, Kp y J6 G → Same J G) {Q1 : VK} (hQ : ∀ (tf : Addr) (G : Hp), ToldE G tf code due → Same J G → Q1 (.ref tf) G) : XkK y CE fs J6 (EWhy K css Q1) := by
  intro d H' k hd hd'
  exact ⟨code, due, ⟨CE, d, fs, rfl, eC.xf, eC.at_, rfl, hd', hcode, hdue⟩, eC.ex, fun t t1' G s ht h1 h2 => hQ t G ⟨t1', h2, h1⟩ ((kx k).trans s)⟩
theorem eqv_lst {H : Hp} {q r : Addr} {xs ys : List V} {n : Nat} (h1 : H q = some (.lst xs)) (h2 : H r = some (.lst ys)) (hl : xs.length ≤ 1000) (h : All2 (Eqv H n) xs ys) : Eqv H (n + 1) (.ref q) (.ref r) :=
  .inr ⟨q, r, xs, ys, rfl, rfl, h.1, by omega, .inl ⟨h1, h2⟩, h.2⟩
theorem ToldE.eqv {H : Hp} {tf td t1 : Addr} {code : Str} {due : List V} (h : ToldE H tf code due) (h3 : H td = some (.tup [.str code, .ref t1])) (h4 : H t1 = some (.tup due)) (hl : due.length ≤ 2) (lf : ∀ z ∈ due, Leaf z) (n : Nat) : Eqv H (n + 2) (.ref tf) (.ref td) := by
  obtain ⟨t1', h1, h2⟩ := h
  exact eqv_told n h1 h2 h3 h4 hl lf
theorem Kp.n {b : Addr} {H H1 : Hp} (k : Kp b H H1) : KpN b H H1 := fun a o h n _ => k a o h n
/-! ### one fault at most -/
open XV
theorem wired_none {ps : List Pt} {os : List Str} (nd : (wiresP ps).Nodup) (kn : ∀ p ∈ ps, ∀ e ∈ endsP p, e ∈ wiresP ps) (ho : ∀ z ∈ os, z ∈ wiresP ps) : wireFlt ps os = none := by
  have e1 : dupOf [] (wiresP ps) = none := dup_none fun j y hy => by
    rw [List.nil_append]
    exact nd_take nd hy
  have e2 : unkOf (wiresP ps) ps = none := unkOf_none fun j q hq => List.find?_eq_none.mpr fun z h => by simpa using kn q (List.mem_of_getElem? hq) z h
  unfold wireFlt
  rw [e1, e2]
  show Option.map Flt.unk (unkIn (wiresP ps) os) = none
  rw [show unkIn (wiresP ps) os = none from List.find?_eq_none.mpr fun z h => by simpa using ho z h]
  rfl
def rankP : FltP → Nat
  | .n .parts => 0
  | .n (.dup _) => 1
  | .n (.unk _) => 1
  | .n .src => 2
  | .piece _ => 3
  | .use _ => 3
  | .wires => 4
  | .n .boxes => 5
  | .n (.unlike _) => 6
  | .n (.ring _) => 7
def passP (lib : Str → Option ND) (ps : List Pt) (os : List Str) : Nat → Prop
  | 0 => ps.length ≤ 16
  | 1 => wireFlt ps os = none
  | 2 => (sourcesP ps).length ≤ 4
  | 3 => UsesFine lib ps
  | 4 => (plainU lib ps).length ≤ 24
  | 5 => (boxesP (plainU lib ps)).length ≤ 8
  | 6 => unlikeOf (boxesP (plainU lib ps)) = none
  | _ => ∀ z, ¬ Rch (graphP (plainU lib ps)) z z
theorem uses_bad {lib : Str → Option ND} {ps : List Pt} {f : FltU} (h : UsesBad lib ps f) : ¬ UsesFine lib ps := fun u => by
  obtain ⟨i, p, hp, _, hf⟩ := h
  rw [u i p hp] at hf
  cases hf
theorem fst_ring {G : List (Str × List Str)} {z : Str} (h : Fst G (.str z)) : Rch G z z := by
  rcases h with ⟨h, _⟩ | ⟨i, y, _, r, _, e⟩
  · cases h
  · cases e
    exact r
theorem bad_pass {lib : Str → Option ND} {ps : List Pt} {os : List Str} {f : FltP} (h : netBadP lib ps os f) : (∀ k, k < rankP f → passP lib ps os k) ∧ ¬ passP lib ps os (rankP f) := by
  have c0 : ∀ {k : Nat}, k < 0 → passP lib ps os k := fun h => absurd h (Nat.not_lt_zero _)
  cases f with
  | n f => cases f with
    | parts => exact ⟨fun k hk => c0 hk, fun u => absurd (show ps.length ≤ 16 from u) (by have : 16 < ps.length := h; omega)⟩
    | dup w => exact ⟨fun k hk => match k, hk with | 0, _ => h.1, fun u => by have u : wireFlt ps os = none := u; rw [h.2] at u; cases u⟩
    | unk w => exact ⟨fun k hk => match k, hk with | 0, _ => h.1, fun u => by have u : wireFlt ps os = none := u; rw [h.2] at u; cases u⟩
    | src => exact ⟨fun k hk => match k, hk with | 0, _ => h.1 | 1, _ => h.2.1, fun u => absurd (show (sourcesP ps).length ≤ 4 from u) (by have := h.2.2; omega)⟩
    | boxes => exact ⟨fun k hk => match k, hk with | 0, _ => h.1.a.l | 1, _ => h.1.a.w | 2, _ => h.1.a.s | 3, _ => h.1.u | 4, _ => h.1.l, fun u => absurd (show (boxesP (plainU lib ps)).length ≤ 8 from u) (by have := h.2; omega)⟩
    | unlike g => exact ⟨fun k hk => match k, hk with | 0, _ => h.1.a.l | 1, _ => h.1.a.w | 2, _ => h.1.a.s | 3, _ => h.1.u | 4, _ => h.1.l | 5, _ => h.2.1, fun u => by have u : unlikeOf (boxesP (plainU lib ps)) = none := u; rw [h.2.2] at u; cases u⟩
    | ring z => exact ⟨fun k hk => match k, hk with | 0, _ => h.1.a.l | 1, _ => h.1.a.w | 2, _ => h.1.a.s | 3, _ => h.1.u | 4, _ => h.1.l | 5, _ => h.2.1 | 6, _ => h.2.2.1, fun u => (show ∀ z, ¬ Rch (graphP (plainU lib ps)) z z from u) z (fst_ring h.2.2.2)⟩
  | piece z => exact ⟨fun k hk => match k, hk with | 0, _ => h.1.l | 1, _ => h.1.w | 2, _ => h.1.s, uses_bad h.2⟩
  | use i => exact ⟨fun k hk => match k, hk with | 0, _ => h.1.l | 1, _ => h.1.w | 2, _ => h.1.s, uses_bad h.2⟩
  | wires => exact ⟨fun k hk => match k, hk with | 0, _ => h.1.l | 1, _ => h.1.w | 2, _ => h.1.s | 3, _ => h.2.1, fun u => absurd (show (plainU lib ps).length ≤ 24 from u) (by have := h.2.2; omega)⟩
theorem uses_uniq {lib : Str → Option ND} {ps : List Pt} {f g : FltU} (h : UsesBad lib ps f) (k : UsesBad lib ps g) : f = g := by
  obtain ⟨i, p, hp, hb, hf⟩ := h
  obtain ⟨j, q, hq, kb, kf⟩ := k
  rcases Nat.lt_trichotomy i j with l | e | l
  · rw [kb i p l hp] at hf
    cases hf
  · subst e
    rw [hp] at hq
    cases hq
    rw [hf] at kf
    exact Option.some.inj kf
  · rw [hb j q l hq] at kf
    cases kf
theorem fst_uniq {G : List (Str × List Str)} {y z : Str} (h : Fst G (.str y)) (k : Fst G (.str z)) : y = z := by
  rcases h with ⟨h, _⟩ | ⟨i, a, hi, ra, ha, e⟩
  · cases h
  rcases k with ⟨k, _⟩ | ⟨j, b, hj, rb, hb, e2⟩
  · cases k
  cases e
  cases e2
  rcases Nat.lt_trichotomy i j with l | e | l
  · exact absurd ra (hb i _ l hi)
  · subst e
    rw [hi] at hj
    exact Option.some.inj hj
  · exact absurd rb (ha j _ l hj)
theorem bad_uniq {lib : Str → Option ND} {ps : List Pt} {os : List Str} {f g : FltP} (h : netBadP lib ps os f) (k : netBadP lib ps os g) : f = g := by
  have er : rankP f = rankP g := by
    rcases Nat.lt_trichotomy (rankP f) (rankP g) with l | e | l
    · exact absurd ((bad_pass k).1 _ l) (bad_pass h).2
    · exact e
    · exact absurd ((bad_pass h).1 _ l) (bad_pass k).2
  cases f with
  | n f => cases f with
    | parts => cases g with
      | n g => cases g <;> first | rfl | exact absurd er (by simp [rankP])
      | _ => exact absurd er (by simp [rankP])
    | dup w => cases g with
      | n g => cases g with
        | dup w' =>
          have e := h.2.symm.trans k.2
          cases e
          rfl
        | unk w' =>
          have e := h.2.symm.trans k.2
          cases e
        | _ => exact absurd er (by simp [rankP])
      | _ => exact absurd er (by simp [rankP])
    | unk w => cases g with
      | n g => cases g with
        | dup w' =>
          have e := h.2.symm.trans k.2
          cases e
        | unk w' =>
          have e := h.2.symm.trans k.2
          cases e
          rfl
        | _ => exact absurd er (by simp [rankP])
      | _ => exact absurd er (by simp [rankP])
    | src => cases g with
      | n g => cases g <;> first | rfl | exact absurd er (by simp [rankP])
      | _ => exact absurd er (by simp [rankP])
    | boxes => cases g with
      | n g => cases g <;> first | rfl | exact absurd er (by simp [rankP])
      | _ => exact absurd er (by simp [rankP])
    | unlike w => cases g with
      | n g => cases g with
        | unlike w' =>
          have e := h.2.2.symm.trans k.2.2
          cases e
          rfl
        | _ => exact absurd er (by simp [rankP])
      | _ => exact absurd er (by simp [rankP])
    | ring w => cases g with
      | n g => cases g with
        | ring w' => rw [fst_uniq h.2.2.2 k.2.2.2]
        | _ => exact absurd er (by simp [rankP])
      | _ => exact absurd er (by simp [rankP])
  | piece z => cases g with
    | n g => cases g <;> exact absurd er (by simp [rankP])
    | piece z' => cases uses_uniq h.2 k.2; rfl
    | use i => cases uses_uniq h.2 k.2
    | wires => exact absurd er (by simp [rankP])
  | use z => cases g with
    | n g => cases g <;> exact absurd er (by simp [rankP])
    | piece z' => cases uses_uniq h.2 k.2
    | use i => cases uses_uniq h.2 k.2; rfl
    | wires => exact absurd er (by simp [rankP])
  | wires => cases g with
    | n g => cases g <;> first | rfl | exact absurd er (by simp [rankP])
    | wires => rfl
    | _ => exact absurd er (by simp [rankP])
theorem ok_pass {lib : Str → Option ND} {ps : List Pt} {os : List Str} (h : NetPOk lib ps os) (k : Nat) : passP lib ps os k := by
  match k with
  | 0 => exact h.l
  | 1 => exact wired_none h.nd h.known h.outs
  | 2 => exact h.src
  | 3 => exact h.uses
  | 4 => exact h.l24
  | 5 => exact h.box
  | 6 => exact h.un
  | n + 7 => exact h.ring
theorem bad_not {lib : Str → Option ND} {ps : List Pt} {os : List Str} {f : FltP} (h : netBadP lib ps os f) : ¬ NetPOk lib ps os := fun k => (bad_pass h).2 (ok_pass k _)
theorem ok_not {lib : Str → Option ND} {ps : List Pt} {os : List Str} (h : NetPOk lib ps os) : ∀ f, ¬ netBadP lib ps os f := fun f b => bad_not b h
/-- a valid part is one, uses too -/
theorem part_goodU {H : Hp} {v : V} {p : Pt} (h : PtAt H v p) (ok : OkP p) : PartR K H v true := by
  cases p with
  | use w p es =>
    obtain ⟨a, b, rfl, ha, hb⟩ := h
    obtain ⟨hw, hp, hl, he⟩ := ok
    have e : All2 (NmR K H) (es.map V.str) (List.replicate (es.map V.str).length true) := all2_rep fun x hx => by
      obtain ⟨z, hz, rfl⟩ := List.mem_map.mp hx
      exact .good (he z hz)
    have := EndsR.of hb (by rw [List.length_map]; exact hl) e
    rw [all_of] at this
    exact PartR.of ha (by show 2 ≤ 100; decide) (.good hw) (.use (.good hp) this)
  | mix w ts => exact part_good h ok trivial
  | flat k w es => exact part_good h ok trivial
theorem NmR.good' {H : Hp} {z : Str} (h : IsNm z) : NmR K H (.str z) true := .good h
/-- a net of valid parts and names of outputs, whatever is wrong with it -/
theorem made_why {H : Hp} {C : Addr} {c : Ecs} {cP cO cU cI y dx px py : Addr} {z : V} {us : List V} {ps : List Pt} {os : List Str} {lib : Str → Option ND} {m : Nat} {Q : VK} {E : XK} (hy : H y = some (.ins C dx [])) (hpx : H px = some (.lst us) ∨ H px = some (.tup us)) (hA : All2 (PtAt H) us ps) (hs : ∀ p ∈ ps, OkP p ∧ SmP p) (lp : ps.length ≤ 24) (hpy : H py = some (.lst (os.map V.str)) ∨ H py = some (.tup (os.map V.str))) (ho : OsOk os)
    (hpc : PcsAt H C z lib) (hl : LibP m lib) (hm : m ≤ 90) (bad : ∀ f, netBadP lib ps os f → XkP y c cU cI f H E) (q : NetPOk lib ps os → ∀ H', Kp y H H' → NetPA H H' C y us lib ps os → Q .non H') : spNetP K C c cP cO cU cI [.ref y, .ref px, .ref py, z] H Q E := by
  have ul : us.length = ps.length := hA.1
  have good : All2 (PartR K H) us (List.replicate us.length true) := all2_rep fun x hx => by
    obtain ⟨i, hi⟩ := List.getElem?_of_mem hx
    have il := (List.getElem?_eq_some_iff.mp hi).1
    obtain ⟨p, hp⟩ : ∃ p, ps[i]? = some p := ⟨ps[i]'(by rw [← hA.1]; exact il), List.getElem?_eq_getElem _⟩
    exact part_goodU (hA.2 i x p hi hp) (hs p (List.mem_of_getElem? hp)).1
  have l4 := ho.l1
  refine ⟨y, dx, px, py, z, us, List.replicate us.length true, os.map V.str, List.replicate (os.map V.str).length true, m, lib, rfl, hy, hpx, good, by omega, hpy, all2_rep fun x hx => by
    obtain ⟨z, hz, rfl⟩ := List.mem_map.mp hx
    exact .good (ho.nm z hz), by rw [List.length_map]; omega, hpc, hl, hm, ?_, ?_, ?_, ?_, ?_⟩
  · exact fun i hi => (hi.notAll allT_rep).elim
  · exact fun _ h => bad (.n .parts) (by show 16 < ps.length; omega)
  · exact fun _ _ i hi => (hi.notAll allT_rep).elim
  · exact fun _ _ _ h => absurd (show 1 ≤ (os.map V.str).length ∧ (os.map V.str).length ≤ 4 from ⟨by rw [List.length_map]; exact ho.l0, by rw [List.length_map]; exact ho.l1⟩) h
  · exact fun _ _ _ _ _ => ⟨ps, os, hA, rfl, ⟨hs, lp, ho⟩, bad, q⟩
/-- .. that is refused for f -/
theorem made_bad {H : Hp} {C : Addr} {c : Ecs} {cP cO cU cI y dx px py : Addr} {z : V} {us : List V} {ps : List Pt} {os : List Str} {lib : Str → Option ND} {m : Nat} {Q : VK} {E : XK} {f : FltP} (hy : H y = some (.ins C dx [])) (hpx : H px = some (.lst us) ∨ H px = some (.tup us)) (hA : All2 (PtAt H) us ps) (hs : ∀ p ∈ ps, OkP p ∧ SmP p) (lp : ps.length ≤ 24) (hpy : H py = some (.lst (os.map V.str)) ∨ H py = some (.tup (os.map V.str))) (ho : OsOk os)
    (hpc : PcsAt H C z lib) (hl : LibP m lib) (hm : m ≤ 90) (bf : netBadP lib ps os f) (x : XkP y c cU cI f H E) : spNetP K C c cP cO cU cI [.ref y, .ref px, .ref py, z] H Q E :=
  made_why hy hpx hA hs lp hpy ho hpc hl hm (fun g bg => by rw [bad_uniq bg bf]; exact x) fun ok => (bad_not bf ok).elim
/-- .. that is made -/
theorem made_good {H : Hp} {C : Addr} {c : Ecs} {cP cO cU cI y dx px py : Addr} {z : V} {us : List V} {ps : List Pt} {os : List Str} {lib : Str → Option ND} {m : Nat} {Q : VK} {E : XK} (hy : H y = some (.ins C dx [])) (hpx : H px = some (.lst us) ∨ H px = some (.tup us)) (hA : All2 (PtAt H) us ps) (hpy : H py = some (.lst (os.map V.str)) ∨ H py = some (.tup (os.map V.str)))
    (hpc : PcsAt H C z lib) (hl : LibP m lib) (hm : m ≤ 90) (ok : NetPOk lib ps os) (q : ∀ H', Kp y H H' → NetPA H H' C y us lib ps os → Q .non H') : spNetP K C c cP cO cU cI [.ref y, .ref px, .ref py, z] H Q E :=
  made_why hy hpx hA ok.ok (by have := ok.l; omega) hpy ok.oso hpc hl hm (fun g bg => (ok_not ok g bg).elim) fun _ => q

/-! ### nets beside the bag -/
def NetB (b : Addr) (H : Hp) (C a : Addr) (D : ND) : Prop := ∃ dx p o d m us vs, p ≠ b ∧ o ≠ b ∧ m ≠ b ∧ H a = some (.ins C dx (netFs p o d m)) ∧ PsU H p us D.ps ∧ H o = some (.lst (D.os.map V.str)) ∧ PsU H m vs D.qs ∧ (∀ q ∈ D.qs, notUse q)
theorem NetB.u {b : Addr} {H : Hp} {C a : Addr} {D : ND} (h : NetB b H C a D) : NetU H C a D := by
  obtain ⟨dx, p, o, d, m, us, vs, _, _, _, h⟩ := h
  exact ⟨dx, p, o, d, m, us, vs, h⟩
theorem NetB.same {b : Addr} {H H' : Hp} {C a : Addr} {D : ND} (h : NetB b H C a D) (s : Same H H') : NetB b H' C a D := by
  obtain ⟨dx, p, o, d, m, us, vs, n1, n2, n3, h1, h2, h3, h4, h5⟩ := h
  exact ⟨dx, p, o, d, m, us, vs, n1, n2, n3, s _ _ h1, h2.same s, s _ _ h3, h4.same s, h5⟩
theorem PsU.kpN {b c : Addr} {H H' : Hp} {o : Addr} {us : List V} {ps : List Pt} (h : PsU H o us ps) (B : Bag H b c) (k : KpN b H H') (n : o ≠ b) : PsU H' o us ps := ⟨k.lst h.at_ n, h.all.mono fun _ _ z => z.tups (k.tups B), h.ok, h.l⟩
theorem NetB.kpN {b c : Addr} {H H' : Hp} {C a : Addr} {D : ND} (h : NetB b H C a D) (B : Bag H b c) (k : KpN b H H') : NetB b H' C a D := by
  obtain ⟨dx, p, o, d, m, us, vs, n1, n2, n3, h1, h2, h3, h4, h5⟩ := h
  obtain ⟨ns, p', r, s, q, hb⟩ := id B
  exact ⟨dx, p, o, d, m, us, vs, n1, n2, n3, k _ _ h1 (ne_of h1 hb.lb (by intro z; cases z)) (fun _ z => nomatch z), h2.kpN B k n1, k.lst h3 n2, h4.kpN B k n3, h5⟩
theorem NetPA.b {m : Nat} {b c : Addr} {H0 H : Hp} {C a : Addr} {us : List V} {lib : Str → Option ND} {ps : List Pt} {os : List Str} (h : NetPA H0 H C a us lib ps os) (hl : LibP m lib) (hm : m ≤ 90) (B : Bag H0 b c) : NetB b H C a ⟨ps, plainU lib ps, os⟩ := by
  obtain ⟨dx, p, o, d, mm, vs, f1, f2, f3, h1, h2, h3, h4, h5, h6⟩ := h.ex
  have mp := made_parts hl hm h.ok.ok
  exact ⟨dx, p, o, d, mm, us, vs, B.fresh f1, B.fresh f2, B.fresh f3, h1, ⟨h2, h.all, fun q hq => ShU.of (h.ok.ok q hq).1 (h.ok.ok q hq).2, by show ps.length ≤ 100; have := h.ok.l; omega⟩, h3, ⟨h5, h6, fun q hq => (mp q hq).1, by show (plainU lib ps).length ≤ 100; have := h.ok.l24; omega⟩, fun q hq => (mp q hq).2.2⟩
/-- pieces beside the bag -/
def PcB (b : Addr) (H : Hp) (C d : Addr) (lib : Str → Option ND) : Prop := ∃ kvs : List (Key × V), H d = some (.dK kvs) ∧ ∀ z, match lib z with
  | none => valV kvs (Sum.inr z) = none
  | some D => ∃ a, valV kvs (Sum.inr z) = some (.ref a) ∧ NetB b H C a D
theorem PcB.mono {b d : Addr} {H H' : Hp} {C : Addr} {lib : Str → Option ND} (h : PcB b H C d lib) (k : ∀ kvs, H d = some (.dK kvs) → H' d = some (.dK kvs)) (f : ∀ n D, NetB b H C n D → NetB b H' C n D) : PcB b H' C d lib := by
  obtain ⟨kvs, h1, h2⟩ := h
  refine ⟨kvs, k _ h1, fun z => ?_⟩
  have := h2 z
  cases e : lib z with
  | none =>
    rw [e] at this
    exact this
  | some D =>
    rw [e] at this
    obtain ⟨a, e1, e2⟩ := this
    exact ⟨a, e1, f _ _ e2⟩
theorem PcB.same {b d : Addr} {H H' : Hp} {C : Addr} {lib : Str → Option ND} (h : PcB b H C d lib) (s : Same H H') : PcB b H' C d lib := h.mono (fun _ h => s _ _ h) fun _ _ u => u.same s
theorem PcB.kpN {b c d : Addr} {H H' : Hp} {C : Addr} {lib : Str → Option ND} (h : PcB b H C d lib) (B : Bag H b c) (k : KpN b H H') : PcB b H' C d lib := by
  obtain ⟨ns, p', r, s, q, hb⟩ := id B
  exact h.mono (fun _ h => k _ _ h (ne_of h hb.lb (by intro z; cases z)) (fun _ z => nomatch z)) fun _ _ u => u.kpN B k
theorem PcB.at_ {b d : Addr} {H : Hp} {C : Addr} {lib : Str → Option ND} (h : PcB b H C d lib) : PcAt H C d lib := by
  obtain ⟨kvs, h1, h2⟩ := h
  refine ⟨kvs, h1, fun z => ?_⟩
  have := h2 z
  cases e : lib z with
  | none =>
    rw [e] at this
    exact this
  | some D =>
    rw [e] at this
    obtain ⟨a, e1, e2⟩ := this
    exact ⟨a, e1, e2.u⟩
end
end Un
namespace LitX
open PySem PySem.Spec PyProof.Rows L2 Un
/-! ### literals: tuples and lists of names and constants, all at once -/
abbrev RV := L2.St → Hp → Hp → V → Prop
abbrev RA := L2.St → Hp → Hp → List V → Prop
def tR (p : L2.St → Prop) (R : RV) : TE := fun σ H Q => p σ ∧ ∀ v H', Same H H' → R σ H H' v → Q v H'
def aR (p : L2.St → Prop) (S : RA) : TA := fun σ H Q => p σ ∧ ∀ vs H', Same H H' → S σ H H' vs → Q vs H'
structure PEr (X : Cx) (e : Expr) (p : L2.St → Prop) (R : RV) : Prop where
  pe : PE X e (tR p R)
  up : ∀ {σ H0 H H' v}, Same H H' → R σ H0 H v → R σ H0 H' v
  dn : ∀ {σ H0 H1 H v}, Same H0 H1 → R σ H1 H v → R σ H0 H v
structure PAr (X : Cx) (es : List Expr) (n : Nat) (p : L2.St → Prop) (S : RA) : Prop where
  pa : PA X es (aR p S)
  up : ∀ {σ H0 H H' vs}, Same H H' → S σ H0 H vs → S σ H0 H' vs
  dn : ∀ {σ H0 H1 H vs}, Same H0 H1 → S σ H1 H vs → S σ H0 H vs
  len : ∀ {σ H0 H vs}, S σ H0 H vs → vs.length = n
def sl (σ : L2.St) (i : Nat) : V := match σ[i]? with
  | some (some v) => v
  | _ => .non
section
variable {X : Cx} {e : Expr} {es : List Expr} {p q : L2.St → Prop} {R : RV} {S : RA} {n : Nat} {pos : Pos}
theorem pe_w {t t' : TE} (h : PE X e t) (w : ∀ σ H Q, t' σ H Q → t σ H Q) : PE X e t' := ⟨fun pins s σ H Q I k => h.run pins s σ H Q I (w σ H Q k)⟩
theorem pa_w {t t' : TA} (h : PA X es t) (w : ∀ σ H Q, t' σ H Q → t σ H Q) : PA X es t' := ⟨fun pos pins s σ H Q I k => h.run pos pins s σ H Q I (w σ H Q k)⟩
theorem r_c {v : V} (h : PE X e (tC v)) : PEr X e (fun _ => True) (fun _ _ _ x => x = v) :=
  ⟨pe_w h fun σ H Q k => k.2 v H (Same.refl H) rfl, fun _ h => h, fun _ h => h⟩
theorem r_s {i : Nat} (h : PE X e (tVar i)) : PEr X e (fun σ => ∃ v, σ[i]? = some (some v)) (fun σ _ _ x => x = sl σ i) :=
  ⟨pe_w h fun σ H Q k => by
    obtain ⟨⟨v, hv⟩, k⟩ := k
    exact ⟨v, hv, k v H (Same.refl H) (show v = sl σ i by unfold sl; rw [hv])⟩, fun _ h => h, fun _ h => h⟩
def ss (σ : L2.St) (i : Nat) : Str := match sl σ i with
  | .str z => z
  | _ => ""
theorem r_cat {i : Nat} {z : Str} (hz : z.length ≤ 900) (h : PE X e (tOp (fun x y H Q => ∃ i j, x = .str i ∧ y = .str j ∧ i.length + j.length ≤ sizeLine ∧ Q (.str (i ++ j)) H) (tVar i) (tC (.str z)))) : PEr X e (fun σ => ∃ v, σ[i]? = some (some (.str v)) ∧ v.length ≤ 100) (fun σ _ _ x => x = .str (ss σ i ++ z)) :=
  ⟨pe_w h fun σ H Q k => by
    obtain ⟨⟨v, hv, lv⟩, k⟩ := k
    refine ⟨_, hv, v, z, rfl, rfl, Nat.le_trans (show _ ≤ 1000 by omega) (by decide), ?_⟩
    refine k _ H (Same.refl H) ?_
    show V.str (v ++ z) = V.str (ss σ i ++ z)
    have e1 : sl σ i = .str v := by unfold sl; rw [hv]
    have : ss σ i = v := by unfold ss; rw [e1]
    rw [this], fun _ h => h, fun _ h => h⟩
theorem a_nil : PAr X [] 0 (fun _ => True) (fun _ _ _ vs => vs = []) :=
  ⟨pa_w pa_nil fun σ H Q k => k.2 [] H (Same.refl H) rfl, fun _ h => h, fun _ h => h, fun h => by rw [h]; rfl⟩
theorem a_cons (he : PEr X e p R) (hs : PAr X es n q S) (hst : starEach (e :: es) X.env = (false, eval e X.env) :: starEach es X.env := by rfl) :
    PAr X (e :: es) (n + 1) (fun σ => p σ ∧ q σ) (fun σ H0 H vs => ∃ v r, vs = v :: r ∧ R σ H0 H v ∧ S σ H0 H r) :=
  ⟨pa_w (pa_cons he.pe hs.pa hst) fun σ H Q k => ⟨k.1.1, fun v H1 s1 r1 => ⟨k.1.2, fun vs H2 s2 r2 => k.2 (v :: vs) H2 (s1.trans s2) ⟨v, vs, rfl, he.up s2 r1, hs.dn s1 r2⟩⟩⟩,
    fun s ⟨v, r, e, a, b⟩ => ⟨v, r, e, he.up s a, hs.up s b⟩, fun s ⟨v, r, e, a, b⟩ => ⟨v, r, e, he.dn s a, hs.dn s b⟩, fun ⟨v, r, e, a, b⟩ => by rw [e, List.length_cons, hs.len b]⟩
theorem same_none {H H' : Hp} {a : Addr} (s : Same H H') (h : H' a = none) : H a = none := by
  cases e : H a with
  | none => rfl
  | some o => rw [s _ _ e] at h; cases h
theorem r_tup {x1} (h : PAr X es n p S) (hn : n ≤ 1000 := by decide) : PEr X (.Tuple es x1 pos) p (fun σ H0 H v => ∃ a vs, v = .ref a ∧ H0 a = none ∧ H a = some (.tup vs) ∧ S σ H0 H vs) :=
  ⟨pe_w (pe_tup h.pa) fun σ H Q k => ⟨k.1, fun vs H1 s1 r => ⟨Nat.le_trans (by rw [h.len r]; exact hn) (by decide : 1000 ≤ sizeLine), fun a ha =>
      have s2 := same_upd ha (.tup vs)
      k.2 (.ref a) _ (s1.trans s2) ⟨a, vs, rfl, same_none s1 ha, upd_same, h.up s2 r⟩⟩⟩,
    fun s ⟨a, vs, e, f, g, r⟩ => ⟨a, vs, e, f, s _ _ g, h.up s r⟩, fun s ⟨a, vs, e, f, g, r⟩ => ⟨a, vs, e, same_none s f, g, h.dn s r⟩⟩
theorem r_lst (h : PAr X es n p S) (hn : n ≤ 1000 := by decide) : PEr X (.List es pos) p (fun σ H0 H v => ∃ a vs, v = .ref a ∧ H0 a = none ∧ H a = some (.lst vs) ∧ S σ H0 H vs) :=
  ⟨pe_w (pe_lst h.pa) fun σ H Q k => ⟨k.1, fun vs H1 s1 r => ⟨Nat.le_trans (by rw [h.len r]; exact hn) (by decide : 1000 ≤ sizeLine), fun a ha =>
      have s2 := same_upd ha (.lst vs)
      k.2 (.ref a) _ (s1.trans s2) ⟨a, vs, rfl, same_none s1 ha, upd_same, h.up s2 r⟩⟩⟩,
    fun s ⟨a, vs, e, f, g, r⟩ => ⟨a, vs, e, f, s _ _ g, h.up s r⟩, fun s ⟨a, vs, e, f, g, r⟩ => ⟨a, vs, e, same_none s f, g, h.dn s r⟩⟩
end
end LitX
namespace TRep
open PySem PySem.Spec PyProof.Rows L2
/-! ### a tuple, repeated no times, once, more often -/
theorem tuple_mul0 (l : Addr) (items : Array Value) (n : Nat) (dd : Option Addr) (sl : Array (Option Value)) (x : Int) (u : Tok) (c0 : (decide (x < -(2 ^ 63)) || decide (x ≥ 2 ^ 63)) = false) (c1 : (items.isEmpty || x == 1) = false) (c2 : (decide (x ≤ 0) || items.isEmpty) = true) :
    Meets (Builtin.«tuple.__mul__» ⟨[.ref l, .int x u], []⟩) (fun _ R s => s.heap.get? l = some { cls := .type "tuple", dict := dd, data := .seq items n, slots := sl } ∧
      R (.ok (.ret (Value.ref s.heap.objs.size))) { s with heap := s.heap.push { cls := Value.type "tuple", data := Data.seq #[] }, toks := s.toks }) :=
  .of_wp fun prog w A R s h => by
    obtain ⟨hp, g, d, tk, os⟩ := s
    obtain ⟨hl, h⟩ := h
    have f1 := AutoSeq1.idx_int
    wp_walk using wpAny_loadPart' hl
    repeat (first
      | (refine wpAny_ite_false (decide_eq_false (by rw [c0]; exact Bool.false_ne_true)) ?_; wp_walk using wpAny_loadPart' hl)
      | (refine wpAny_ite_false (decide_eq_false (by rw [c1]; exact Bool.false_ne_true)) ?_; wp_walk using wpAny_loadPart' hl)
      | (refine wpAny_ite_true (decide_eq_true (by rw [c2])) ?_; wp_walk using wpAny_loadPart' hl))
    exact ⟨_, rfl, h⟩
theorem tuple_mul1 (l : Addr) (items : Array Value) (n : Nat) (dd : Option Addr) (sl : Array (Option Value)) (x : Int) (u : Tok) (c0 : (decide (x < -(2 ^ 63)) || decide (x ≥ 2 ^ 63)) = false) (c1 : (items.isEmpty || x == 1) = true) :
    Meets (Builtin.«tuple.__mul__» ⟨[.ref l, .int x u], []⟩) (fun _ R s => s.heap.get? l = some { cls := .type "tuple", dict := dd, data := .seq items n, slots := sl } ∧
      R (.ok (.ret (Value.ref l))) s) :=
  .of_wp fun prog w A R s h => by
    obtain ⟨hp, g, d, tk, os⟩ := s
    obtain ⟨hl, h⟩ := h
    have f1 := AutoSeq1.idx_int
    wp_walk using wpAny_loadPart' hl
    repeat (first
      | (refine wpAny_ite_false (decide_eq_false (by rw [c0]; exact Bool.false_ne_true)) ?_; wp_walk using wpAny_loadPart' hl)
      | (refine wpAny_ite_true (decide_eq_true (by rw [c1])) ?_; wp_walk using wpAny_loadPart' hl))
    exact ⟨_, rfl, h⟩
def rRepA (K : PySem.W.Frag) : R2 := fun x y H Q => ∃ l k xs, x = .ref l ∧ y = .int k ∧ SqT K H l xs ∧ xs ≠ [] ∧ -1000 ≤ k ∧ k ≤ 1000 ∧ xs.length ≤ 1000 ∧ (k = 1 → Q (.ref l) H) ∧ (k ≠ 1 → ∀ p, H p = none → Q (.ref p) (upd H p (.tup (List.replicate k.toNat xs).flatten)))
theorem op_repA {X : Cx} : OpR X (binaryOp .Mult) (rRepA X.K) := by
  intro pins s σ H x y v u Q I rx ry h
  obtain ⟨l, k, xs, rfl, rfl, hT, hne, h0, h2, hz, q1, q2⟩ := h
  by_cases big : 2 ≤ k
  · exact op_repT pins s σ H _ _ v u Q I rx ry ⟨l, k, xs, rfl, rfl, hT, hne, big, h2, hz, q2 (by omega)⟩
  cases rx
  obtain ⟨t, rfl⟩ := ry
  obtain ⟨its, r, ⟨⟨cls, dd, data, sl⟩, ho, hc, n, hd⟩, hs⟩ := I.tuple hT
  simp only at hc hd
  subst hc hd
  have hle : its.length = xs.length := r.length.symm
  have hn : its ≠ [] := fun e => hne (by
    rw [e] at hle
    exact List.eq_nil_of_length_eq_zero hle.symm)
  have hi : its.toArray.isEmpty = false := by
    cases its with
    | nil => exact absurd rfl hn
    | cons a b => rfl
  have c0 : (decide (k < -(2 ^ 63)) || decide (k ≥ 2 ^ 63)) = false := by
    rw [decide_eq_false (by omega), decide_eq_false (by omega)] <;> rfl
  by_cases one : k = 1
  · have c1 : (its.toArray.isEmpty || k == 1) = true := by rw [one, hi]; rfl
    exact wpAny_binaryOp_repeat_ref (T := "tuple") (U := "int") (by decide) ⟨_, ho, rfl⟩ (fun s' => typeIs_int s' k t) noFill_tuple_mul F.fills_int_mul F.slot_int_rmul repeat_tuple F.slot_int_index.lookup
      (call_meets F.slot_int_rmul (typeIs_int s k t) F.entry_int_rmul (F.args_int_rmul_2 _ _) (int_rmul_tuple k t l its.toArray n dd sl)
        ⟨ho, rfl, ⟨_, ho, rfl⟩, call_meets F.slot_tuple_mul ⟨_, ho, rfl⟩ F.entry_tuple_mul (F.args_tuple_mul_2 _ _) (tuple_mul1 l its.toArray n dd sl k t c0 c1) ⟨ho, .ref l, H, I, rfl, q1 one⟩⟩)
  · have c1 : (its.toArray.isEmpty || k == 1) = false := by
      rw [hi, Bool.false_or]
      exact beq_eq_false_iff_ne.mpr one
    have c2 : (decide (k ≤ 0) || its.toArray.isEmpty) = true := by
      rw [decide_eq_true (by omega)]
      rfl
    refine wpAny_binaryOp_repeat_ref (T := "tuple") (U := "int") (by decide) ⟨_, ho, rfl⟩ (fun s' => typeIs_int s' k t) noFill_tuple_mul F.fills_int_mul F.slot_int_rmul repeat_tuple F.slot_int_index.lookup
      (call_meets F.slot_int_rmul (typeIs_int s k t) F.entry_int_rmul (F.args_int_rmul_2 _ _) (int_rmul_tuple k t l its.toArray n dd sl)
        ⟨ho, rfl, ⟨_, ho, rfl⟩, call_meets F.slot_tuple_mul ⟨_, ho, rfl⟩ F.entry_tuple_mul (F.args_tuple_mul_2 _ _) (tuple_mul0 l its.toArray n dd sl k t c0 c1 c2) ⟨ho, ?_⟩⟩)
    have ek : k.toNat = 0 := by omega
    have q3 := q2 one
    rw [ek] at q3
    refine ⟨.ref s.heap.objs.size, _, I.laid (t' := s.toks) (o := .tup []) (fun b ob q => Heap.get?_push_of_some _ q) (Nat.le_refl _) ?_, rfl, q3 _ (I.hok.fresh (Nat.le_refl _))⟩
    exact ⟨by decide, _, .nil, IsTup.new _ _⟩
def rRepS : R2 := fun x y H Q => ∃ l k xs, x = .ref l ∧ y = .int k ∧ H l = some (.tup xs) ∧ xs ≠ [] ∧ -1000 ≤ k ∧ k ≤ 1000 ∧ xs.length ≤ 1000 ∧ ∀ p H', L2.Same H H' → H' p = some (.tup (List.replicate k.toNat xs).flatten) → Q (.ref p) H'
theorem op_repS {X : Cx} : OpR X (binaryOp .Mult) rRepS := by
  intro pins s σ H x y v u Q I rx ry h
  obtain ⟨l, k, xs, ex, ey, hl, hn, h0, h1, hz, q⟩ := h
  refine op_repA pins s σ H x y v u Q I rx ry ⟨l, k, xs, ex, ey, SqT.of hl, hn, h0, h1, hz, fun e => ?_, fun _ p hp => q p _ (Un.same_upd hp _) L2.upd_same⟩
  refine q l H (L2.Same.refl H) ?_
  rw [e, hl]
  simp
end TRep
namespace Un
open PySem L2 TL
section
variable {P : Program} {w : World} {K : PySem.W.Frag} {mg : Str → Option Value} {base : Heap}
/-! ### the kinds of a net's boxes -/
def kindsK (bs : List Bx3) : List (Key × V) := bs.foldl (fun m b => putK m (Sum.inr b.2.2) (V.str b.2.1)) []
theorem kindsK_snoc {bs : List Bx3} {b : Bx3} : kindsK (bs ++ [b]) = putK (kindsK bs) (Sum.inr b.2.2) (V.str b.2.1) := by
  unfold kindsK
  rw [List.foldl_append]
  rfl
theorem kindsK_len : ∀ (bs : List Bx3) (m : List (Key × V)), (bs.foldl (fun m b => putK m (Sum.inr b.2.2) (V.str b.2.1)) m).length ≤ m.length + bs.length
  | [], m => Nat.le_refl _
  | b :: bs, m => by
    have h := kindsK_len bs (putK m (Sum.inr b.2.2) (V.str b.2.1))
    have := length_putK m (Sum.inr b.2.2) (V.str b.2.1)
    show (bs.foldl _ (putK m (Sum.inr b.2.2) (V.str b.2.1))).length ≤ m.length + (bs.length + 1)
    omega
def spKindsU (C : Addr) : Sp := fun vs H Q _ => ∃ (a dx p o d m : Addr) (us : List V) (ps : List Pt), vs = [.ref a] ∧ H a = some (.ins C dx (netFs p o d m)) ∧ PsU H m us ps ∧ (∀ p ∈ ps, notUse p) ∧ (boxesP ps).length ≤ 100 ∧ ∀ (l : Addr) (H' : Hp), Same H H' → H l = none → H' l = some (.dK (kindsK (boxesP ps))) → Q (.ref l) H'
theorem scN_kinds : FnScope ["self", "_", "kind", "box"] ["self"] (defScope sN_kinds) := ⟨rfl, rfl, rfl, by decide +kernel, rfl, by decide +kernel, by decide +kernel⟩
theorem ok_n_kinds {f C fb : Addr} {fd db : FuncData} (F : Fun K "kinds" "Net.kinds" sN_kinds f fd) (C' : NetC K C) (MB : Mt P w K mg base C 2 fb db "boxes" ["self"] (spBoxesU C)) : FnOk P w K mg base CX0 3 f fd ["self"] (spKindsU C) := by
  refine F.ok scN_kinds (fun vs H Q E h => ?_) (fun cdv A outer s H vs Q E hr h => ?_)
  · obtain ⟨a, dx, p, o, d, m, us, ps, rfl, _⟩ := h
    rfl
  obtain ⟨a, dx, p, o, d, m, us, ps, rfl, ha, pa, nus, bl, q⟩ := h
  refine ⟨_, (pss_one (ps_ret (pe_dc (own := [("_", 1), ("kind", 2), ("box", 3)]) (g := (gTup K 3 (gCons (gName 1) (gCons (gName 2) (gCons (gName 3) gNil))))) rfl scN_kinds.nd (pi_list (pe_meth0 (pv 0) C'.cl MB.mt MB.ok (hr.mono (by decide)) MB.b .nil pass0)) (blkOk_by (own := [("_", 1), ("kind", 2), ("box", 3)]) (N := ["self", "_", "kind", "box"]) (sc := defScope sN_kinds) (by decide +kernel)) (fun _ _ _ _ _ => (pg_tup (n := 3) rfl (pgs_cons (pg_name (i := 1) scN_kinds.nd rfl (Or.inl rfl) (Or.inr rfl)) (pgs_cons (pg_name (i := 2) scN_kinds.nd rfl (Or.inl rfl) (Or.inr rfl)) (pgs_cons (pg_name (i := 3) scN_kinds.nd rfl (Or.inl rfl) (Or.inr rfl)) pgs_nil))))) (fun _ _ _ _ _ => pts_nil) (fun _ _ _ _ _ => (pv 3)) (fun _ _ _ _ _ => (pv 2))))), ?_⟩
  refine ⟨_, rfl, a, dx, _, rfl, ha, rfl, a, dx, m, _, us, ps, rfl, ha, rfl, pa, nus, fun l2 bs H1 s1 hl2 hl1 hb1 => ?_⟩
  refine ⟨l2, rfl, ⟨_, SqL.of hl1⟩, fun D hD => ?_⟩
  refine dc_lst (xs := bs) (fun i H2 => Same H1 H2 ∧ H2 D = some (.dK (kindsK ((boxesP ps).take i)))) ⟨same_upd hD _, upd_same⟩ (fun i H2 _ h => SqL.of (h.1 _ _ hl1)) (fun i x H2 hx ⟨s2, hD2⟩ => ?_) (fun H2 ⟨s2, hD2⟩ => ?_)
  · have hi : i < bs.length := (List.getElem?_eq_some_iff.mp hx).1
    obtain ⟨b, hb⟩ : ∃ b, (boxesP ps)[i]? = some b := ⟨(boxesP ps)[i]'(by rw [← hb1.1]; exact hi), List.getElem?_eq_getElem _⟩
    obtain ⟨c, rfl, hc⟩ := hb1.2 i x b hx hb
    refine ⟨c, _, rfl, SqT.of (s2 _ _ hc), rfl, _, _, rfl, _, _, rfl, _, _, rfl, rfl, rfl, ?_⟩
    refine ⟨_, rfl, _, rfl, kindsK ((boxesP ps).take i), Sum.inr b.2.2, rfl, hD2, ?_, fun e oe he => ?_, ?_⟩
    · have := kindsK_len ((boxesP ps).take i) []
      exact small1000 (Nat.le_trans this (by rw [List.length_nil, List.length_take]; omega))
    · rw [upd_ne (ne_of_none he hD)]
      exact s2 _ _ he
    · rw [upd_same, List.take_add_one, hb]
      show _ = some (HO.dK (kindsK ((boxesP ps).take i ++ [b])))
      rw [kindsK_snoc]
  · rw [hb1.1, List.take_length] at hD2
    exact q D H2 (s1.trans s2) (s1.free hD) hD2
/-! ### an instance is made -/
theorem mk_same {J : Hp} {y dx C : Addr} (hy : J y = none) (hdx : J dx = none) : Same J (upd (upd J dx (.own y)) y (.ins C dx [])) := fun e o he => by
  rw [upd_ne (ne_of_none he hy), upd_ne (ne_of_none he hdx)]
  exact he
theorem mk_kx {J0 J J6 : Hp} {y : Addr} (ro : Same J0 J) (hy : J y = none) (r : Same J J6) {G : Hp} (k : Kp y J6 G) : Same J0 G := fun e o he => k _ _ (r _ _ (ro _ _ he)) (ne_of_none (ro _ _ he) hy)
/-! ### what a call gave or why it was refused: (code, a list or a tuple) -/
def AnsAt (H : Hp) (t : Addr) (code : Str) (x : Bool) (xs : List V) : Prop := ∃ t1, H t = some (.tup [.str code, .ref t1]) ∧ H t1 = some (if x then .lst xs else .tup xs)
theorem AnsAt.same {H H' : Hp} {t : Addr} {code : Str} {x : Bool} {xs : List V} (h : AnsAt H t code x xs) (s : Same H H') : AnsAt H' t code x xs := by
  obtain ⟨t1, h1, h2⟩ := h
  exact ⟨t1, s _ _ h1, s _ _ h2⟩
theorem AnsAt.of {H : Hp} {t : Addr} {code : Str} {xs : List V} (h : ToldE H t code xs) : AnsAt H t code false xs := h
theorem AnsAt.ext {H H' : Hp} {t : Addr} {code : Str} {x : Bool} {xs : List V} (h : AnsAt H t code x xs) (e : LamX.ExtN H H') : AnsAt H' t code x xs := by
  obtain ⟨t1, h1, h2⟩ := h
  exact ⟨t1, e _ _ h1 (fun _ z => nomatch z), e _ _ h2 (fun _ z => by cases x <;> cases z)⟩
/-- an answer's list stands apart from the list of answers -/
theorem AnsAt.wr {H : Hp} {t fo : Addr} {ys : List V} {code : Str} {x : Bool} {xs : List V} (h : AnsAt H t code x xs) (e : H fo = some (.lst ys)) (n : x = true → ∀ t1, H t = some (.tup [.str code, .ref t1]) → t1 ≠ fo) (o : HO) : AnsAt (upd H fo o) t code x xs := by
  obtain ⟨t1, h1, h2⟩ := h
  refine ⟨t1, by rw [upd_ne (ne_of h1 e fun z => nomatch z)]; exact h1, ?_⟩
  cases x with
  | false =>
    have h2 : H t1 = some (.tup xs) := h2
    rw [upd_ne (ne_of h2 e fun z => nomatch z)]
    exact h2
  | true =>
    rw [upd_ne (n rfl t1 h1)]
    exact h2
theorem AnsAt.eqv {H : Hp} {t u : Addr} {code : Str} {x : Bool} {xs : List V} (h : AnsAt H t code x xs) (g : AnsAt H u code x xs) (hl : xs.length ≤ 1000) (lf : ∀ z ∈ xs, Leaf z) (n : Nat) : Eqv H (n + 2) (.ref t) (.ref u) := by
  obtain ⟨t1, h1, h2⟩ := h
  obtain ⟨u1, g1, g2⟩ := g
  have inner : Eqv H (n + 1) (.ref t1) (.ref u1) := by
    refine .inr ⟨t1, u1, xs, xs, rfl, rfl, rfl, by omega, ?_, fun i a c ha hc => ?_⟩
    · cases x with
      | false => exact .inr ⟨h2, g2⟩
      | true => exact .inl ⟨h2, g2⟩
    · rw [ha] at hc
      cases hc
      exact Eqv.leaf (lf a (List.mem_of_getElem? ha)) _
  exact .inr ⟨t, u, [.str code, .ref t1], [.str code, .ref u1], rfl, rfl, rfl, by show 2 ≤ 100000; decide, .inr ⟨h1, g1⟩, (all2_cons (Eqv.leaf (show Leaf (V.str code) from trivial) _) (all2_cons inner .nil)).2⟩
/-- an answer whose list stands apart from the list of answers at fo -/
def AnsF (fo : Addr) (H : Hp) (t : Addr) (code : Str) (x : Bool) (xs : List V) : Prop := ∃ t1, (x = true → t1 ≠ fo) ∧ H t = some (.tup [.str code, .ref t1]) ∧ H t1 = some (if x then .lst xs else .tup xs)
namespace AnsF
variable {fo t : Addr} {H H' : Hp} {code : Str} {x : Bool} {xs : List V}
theorem at_ (h : AnsF fo H t code x xs) : AnsAt H t code x xs := by
  obtain ⟨t1, _, h1, h2⟩ := h
  exact ⟨t1, h1, h2⟩
theorem told (h : ToldE H t code xs) : AnsF fo H t code false xs := by
  obtain ⟨t1, h1, h2⟩ := h
  exact ⟨t1, (fun z => nomatch z), h1, h2⟩
theorem same (h : AnsF fo H t code x xs) (s : Same H H') : AnsF fo H' t code x xs := by
  obtain ⟨t1, n, h1, h2⟩ := h
  exact ⟨t1, n, s _ _ h1, s _ _ h2⟩
theorem ext (h : AnsF fo H t code x xs) (e : LamX.ExtN H H') : AnsF fo H' t code x xs := by
  obtain ⟨t1, n, h1, h2⟩ := h
  exact ⟨t1, n, e _ _ h1 (fun _ z => nomatch z), e _ _ h2 (fun _ z => by cases x <;> cases z)⟩
theorem wr {ys : List V} (h : AnsF fo H t code x xs) (e : H fo = some (.lst ys)) (o : HO) : AnsF fo (upd H fo o) t code x xs := by
  obtain ⟨t1, n, h1, h2⟩ := h
  refine ⟨t1, n, by rw [upd_ne (ne_of h1 e fun z => nomatch z)]; exact h1, ?_⟩
  cases x with
  | false =>
    have h2 : H t1 = some (.tup xs) := h2
    rw [upd_ne (ne_of h2 e fun z => nomatch z)]
    exact h2
  | true =>
    rw [upd_ne (n rfl)]
    exact h2
end AnsF
theorem leaf_strs {ws : List Str} : ∀ z ∈ ws.map V.str, Leaf z := fun z hz => by
  obtain ⟨y, _, rfl⟩ := List.mem_map.mp hz
  trivial
end
end Un
namespace Un
open PySem L2 TL
section
variable {P : Program} {w : World} {K : PySem.W.Frag} {mg : Str → Option Value} {base : Heap}
/-! ### the law -/
open XV
abbrev sLaw : Stmt := top 70
abbrev lawN : List Str := ["_law_script", "_law_bag_here", "_law_turn", "_law_words", "_law_a", "_law_b", "_law_c", "_law_f", "_law_p", "_law_q", "_law_first", "_law_second", "_law_pieces_z", "_law_delay", "_law_ring", "_law_found", "_law_due", "_law_kind", "_law_some", "_law_why_here", "_law_uses", "_law_at", "_law_late"]
theorem scLaw : FnScope lawN ["_law_script"] (defScope sLaw) := ⟨rfl, rfl, rfl, by decide +kernel, rfl, by decide +kernel, by decide +kernel⟩
def spLawT (K : PySem.W.Frag) (P0 : Addr) : Sp := fun vs H Q _ => ∃ (a : Addr) (ns : List Int), vs = [.ref a] ∧ SqL K H a (ns.map V.int) ∧ ns.length ≤ 63 ∧ H P0 = some (.tbl #[]) ∧ ∀ H', Q (.bl true) H'
def gN1 : List V → List V → List V := fun vs zs => vs ++ zs
theorem kbN1 {K : PySem.W.Frag} {D : Addr} {doc pm : Value} {an : Option Addr} {cdv ct : Value} : KBn K (PySem.W.fnOf "__init__" "Net.__init__" (defArgs sN_init) (defBody sN_init) (defScope sN_init) .none (.ref D) doc pm an cdv ct) netPs 3 ["pieces"] (fun us ws => us ++ ws) gN1 :=
  ⟨fun s us ws _ h1 h2 => match us, ws, h1, h2 with | [_, _, _], [_], _, _ => .of_eq rfl, fun r rz => r.append rz⟩
/-! ### the law's nets -/
theorem nm_s : IsNm "s" := ⟨by decide +kernel, by decide +kernel, by decide +kernel⟩
theorem nm_m : IsNm "m" := ⟨by decide +kernel, by decide +kernel, by decide +kernel⟩
def lib0 : Str → Option ND := fun _ => none
def ps1 : List Pt := [.flat "source" "s" [], .mix "m" [⟨1, 0, "s"⟩]]
def ps2 (f : Str) : List Pt := [.flat "source" "s" [], .flat "plain" "m" [f, "s"]]
def D1 : ND := ⟨ps1, ps1, ["m"]⟩
def D2 (f : Str) : ND := ⟨ps2 f, ps2 f, ["m"]⟩
theorem sm_use {w p : Str} {es : List Str} (h : OkP (.use w p es)) : SmP (.use w p es) := ⟨by have := h.1.l4; omega, by have := h.2.1.l4; omega, by have := h.2.2.1; omega, fun e he => by have := (h.2.2.2 e he).l4; omega⟩
theorem sm_box {k w f e : Str} (hk : k = "plain" ∨ k = "odd" ∨ k = "keep") (hw : IsNm w) (hf : IsNm f) (he : IsNm e) : OkP (.flat k w [f, e]) ∧ SmP (.flat k w [f, e]) := by
  refine ⟨⟨hw, .inr (.inl ⟨hk, f, e, rfl, hf, he⟩)⟩, ?_⟩
  have l1 := hw.l4
  have l2 := hf.l4
  have l3 := he.l4
  refine ⟨by rcases hk with rfl | rfl | rfl <;> decide, by rcases hk with rfl | rfl | rfl <;> decide, by rcases hk with rfl | rfl | rfl <;> decide, by omega, by show 2 ≤ 10; decide, fun z hz => ?_⟩
  simp only [List.mem_cons, List.not_mem_nil, or_false] at hz
  rcases hz with rfl | rfl <;> omega
theorem sm_src {w : Str} (hw : IsNm w) : OkP (.flat "source" w []) ∧ SmP (.flat "source" w []) := by
  have l1 := hw.l4
  exact ⟨⟨hw, .inl ⟨rfl, rfl⟩⟩, by decide, by decide, by decide, by omega, by show 0 ≤ 10; decide, fun z hz => nomatch hz⟩
theorem sm_mix1 {w a : Str} {n d : Int} (hw : IsNm w) (ha : IsNm a) (n0 : -99 ≤ n) (n1 : n ≤ 99) (d0 : 0 ≤ d) (d1 : d ≤ 4) : OkP (.mix w [⟨n, d, a⟩]) ∧ SmP (.mix w [⟨n, d, a⟩]) := by
  have l1 := hw.l4
  have l2 := ha.l4
  have st : SmT ⟨n, d, a⟩ := ⟨n0, n1, d0, d1, by show a.length ≤ 10; omega⟩
  exact ⟨⟨hw, by show 1 ≤ 6; decide, fun t ht => by rw [List.mem_singleton.mp ht]; exact ⟨st, ha⟩⟩, by omega, by show 1 ≤ 10; decide, fun t ht => by rw [List.mem_singleton.mp ht]; exact st⟩
theorem mem2 {α : Type} {x y z : α} (h : x ∈ [y, z]) : x = y ∨ x = z := by simpa using h
theorem mem3 {α : Type} {x y z w : α} (h : x ∈ [y, z, w]) : x = y ∨ x = z ∨ x = w := by simpa using h
theorem ok_ps1 : NetPOk lib0 ps1 ["m"] := by
  refine ⟨fun p hp => ?_, by decide, by decide +kernel, fun p hp e he => ?_, ⟨fun z hz => by rw [List.mem_singleton.mp hz]; exact nm_m, by decide, by decide⟩, fun z hz => by rw [List.mem_singleton.mp hz]; decide +kernel, by decide +kernel, fun j q hq => ?_, by decide +kernel, by decide +kernel, by decide +kernel, ?_⟩
  · rcases mem2 hp with rfl | rfl
    · exact sm_src nm_s
    · exact sm_mix1 nm_m nm_s (by decide) (by decide) (by decide) (by decide)
  · rcases mem2 hp with rfl | rfl
    · cases he
    · rw [List.mem_singleton.mp (show e ∈ [("s" : Str)] from he)]
      decide +kernel
  · rcases mem2 (List.mem_of_getElem? hq) with rfl | rfl <;> rfl
  · refine no_ring (fun z => if z = "m" then 1 else 0) fun z ls h y hy => ?_
    have h := lkp_mem h
    rcases mem2 (show (z, ls) ∈ [(("s" : Str), ([] : List Str)), ("m", ["s"])] from h) with h | h
    · cases h
      cases hy
    · cases h
      rw [List.mem_singleton.mp hy]
      decide +kernel
theorem ok_ps2 {f : Str} (hf : IsNm f) : NetPOk lib0 (ps2 f) ["m"] := by
  refine ⟨fun p hp => ?_, by show 2 ≤ 16; decide, ?_, fun p hp e he => ?_, ⟨fun z hz => by rw [List.mem_singleton.mp hz]; exact nm_m, by decide, by decide⟩, fun z hz => ?_, by show 1 ≤ 4; decide, fun j q hq => ?_, by show 2 ≤ 24; decide, by show 1 ≤ 8; decide, rfl, ?_⟩
  · rcases mem2 hp with rfl | rfl
    · exact sm_src nm_s
    · exact sm_box (.inl rfl) nm_m hf nm_s
  · show (["s", "m"] : List Str).Nodup
    decide +kernel
  · rcases mem2 hp with rfl | rfl
    · cases he
    · rw [List.mem_singleton.mp (show e ∈ [("s" : Str)] from he)]
      show ("s" : Str) ∈ (["s", "m"] : List Str)
      decide +kernel
  · rw [List.mem_singleton.mp hz]
    show ("m" : Str) ∈ (["s", "m"] : List Str)
    decide +kernel
  · rcases mem2 (List.mem_of_getElem? hq) with rfl | rfl <;> rfl
  · refine no_ring (fun z => if z = "m" then 1 else 0) fun z ls h y hy => ?_
    have h := lkp_mem h
    rcases mem2 (show (z, ls) ∈ [(("s" : Str), ([] : List Str)), ("m", ["s"])] from h) with h | h
    · cases h
      cases hy
    · cases h
      rw [List.mem_singleton.mp hy]
      decide +kernel
theorem lib0_ok {m : Nat} : LibP m lib0 := fun z D e => by cases e
theorem d1_ok : PieceOk 5 D1 := made_piece (m := 0) lib0_ok (by decide) ok_ps1
theorem d2_ok {f : Str} (hf : IsNm f) : PieceOk 5 (D2 f) := made_piece (m := 0) (lib := lib0) lib0_ok (by decide) (ok_ps2 hf)
structure Lib84 (lib : Str → Option ND) (p q f : Str) : Prop where
  p : lib p = some D1
  q : lib q = some (D2 f)
  ok : LibP 5 lib
/-! a ring through a use -/
def ringP (a b p : Str) (n d : Int) : List Pt := [.use a p [b], .mix b [⟨n, d, a⟩]]
def ringQ (a b p : Str) (n d : Int) : List Pt := [.mix b [⟨n, d, a⟩], .use a p [b]]
theorem use_ring {a b : Str} : usePlain a D1 [b] = [.mix (slash a "m") [⟨1, 0, b⟩], .mix a [⟨1, 0, slash a "m"⟩]] := rfl
theorem plain_ring {lib : Str → Option ND} {a b p : Str} {n d : Int} (h : lib p = some D1) : plainU lib (ringP a b p n d) = [.mix (slash a "m") [⟨1, 0, b⟩], .mix a [⟨1, 0, slash a "m"⟩], .mix b [⟨n, d, a⟩]] := by
  show unfoldU lib (.use a p [b]) ++ ([.mix b [⟨n, d, a⟩]] ++ []) = _
  rw [show unfoldU lib (.use a p [b]) = usePlain a D1 [b] by simp only [unfoldU, h]]
  rfl
theorem plain_ringQ {lib : Str → Option ND} {a b p : Str} {n d : Int} (h : lib p = some D1) : plainU lib (ringQ a b p n d) = [.mix b [⟨n, d, a⟩], .mix (slash a "m") [⟨1, 0, b⟩], .mix a [⟨1, 0, slash a "m"⟩]] := by
  show [.mix b [⟨n, d, a⟩]] ++ (unfoldU lib (.use a p [b]) ++ []) = _
  rw [show unfoldU lib (.use a p [b]) = usePlain a D1 [b] by simp only [unfoldU, h]]
  rfl
theorem slash_ne {w z y : Str} (h : IsNm y) : slash w z ≠ y := fun e => slash_not_nm (by rw [e]; exact h)
theorem parts_ring {a b p : Str} {n d : Int} (ha : IsNm a) (hb : IsNm b) (hp : IsNm p) (n0 : 0 ≤ n) (n1 : n ≤ 2) (d0 : 0 ≤ d) (d1 : d ≤ 2) : ∀ x, x ∈ ringP a b p n d ∨ x ∈ ringQ a b p n d → OkP x ∧ SmP x := fun x hx => by
  have ou : OkP (.use a p [b]) := ⟨ha, hp, by show 1 ≤ 4; decide, fun e he => by rw [List.mem_singleton.mp he]; exact hb⟩
  have h1 : OkP (Pt.use a p [b]) ∧ SmP (Pt.use a p [b]) := ⟨ou, sm_use ou⟩
  have h2 : OkP (Pt.mix b [⟨n, d, a⟩]) ∧ SmP (Pt.mix b [⟨n, d, a⟩]) := sm_mix1 hb ha (by omega) (by omega) d0 (by omega)
  rcases hx with hx | hx
  · rcases mem2 hx with rfl | rfl
    · exact h1
    · exact h2
  · rcases mem2 hx with rfl | rfl
    · exact h2
    · exact h1
theorem fine_ring {lib : Str → Option ND} {a b p : Str} {n d : Int} (h : lib p = some D1) : UsesFine lib (ringP a b p n d) ∧ UsesFine lib (ringQ a b p n d) := by
  have hu : ∀ j, useFlt lib j (.use a p [b]) = none := fun j => by
    rw [useFlt_some h]
    rfl
  refine ⟨fun j x hx => ?_, fun j x hx => ?_⟩ <;> rcases mem2 (List.mem_of_getElem? hx) with rfl | rfl <;> first | exact hu j | rfl
theorem wired_ring {a b p : Str} {n d : Int} (hab : a ≠ b) : wireFlt (ringP a b p n d) [a] = none ∧ wireFlt (ringQ a b p n d) [a] = none := by
  refine ⟨wired_none ?_ (fun x hx e he => ?_) fun z hz => ?_, wired_none ?_ (fun x hx e he => ?_) fun z hz => ?_⟩
  · show [a, b].Nodup
    simpa using hab
  · show e ∈ [a, b]
    rcases mem2 hx with rfl | rfl
    · rw [List.mem_singleton.mp (show e ∈ [b] from he)]; simp
    · rw [List.mem_singleton.mp (show e ∈ [a] from he)]; simp
  · show z ∈ [a, b]
    rw [List.mem_singleton.mp hz]; simp
  · show [b, a].Nodup
    simpa using hab.symm
  · show e ∈ [b, a]
    rcases mem2 hx with rfl | rfl
    · rw [List.mem_singleton.mp (show e ∈ [a] from he)]; simp
    · rw [List.mem_singleton.mp (show e ∈ [b] from he)]; simp
  · show z ∈ [b, a]
    rw [List.mem_singleton.mp hz]; simp
theorem leads_mix1 {w a : Str} {n d : Int} : leadsP (.mix w [⟨n, d, a⟩]) = if d = 0 then [a] else [] := by
  show List.map _ (List.filter _ [(⟨n, d, a⟩ : Tm)]) = _
  by_cases h : d = 0
  · subst h; rfl
  · rw [if_neg h]
    simp [h]
theorem rch3 {x a b : Str} (h1 : x ≠ a) (h2 : x ≠ b) (h3 : a ≠ b) : Rch [(x, [b]), (a, [x]), (b, [a])] x x ∧ Rch [(b, [a]), (x, [b]), (a, [x])] b b := by
  have f : ∀ {G : List (Str × List Str)}, lkp G x = some [b] → lkp G a = some [x] → lkp G b = some [a] → Rch G x x ∧ Rch G b b := fun {G} g1 g2 g3 => by
    have e : ∀ {z : Str}, z ∈ [z] := fun {z} => List.mem_singleton.mpr rfl
    exact ⟨.step (.step (.one g1 e) g3 e) g2 e, .step (.step (.one g3 e) g2 e) g1 e⟩
  have n1 := h1.symm
  have n2 := h2.symm
  have n3 := h3.symm
  refine ⟨(f ?_ ?_ ?_).1, (f ?_ ?_ ?_).2⟩ <;> simp [lkp, h1, h2, h3, n1, n2, n3]
theorem norch3 {x a b : Str} (h1 : x ≠ a) (h2 : x ≠ b) (h3 : a ≠ b) (G : List (Str × List Str)) (hG : ∀ g ∈ G, g = (x, [b]) ∨ g = (a, [x]) ∨ g = (b, [])) : ∀ z, ¬ Rch G z z := by
  refine no_ring (fun z => if z = b then 0 else if z = x then 1 else 2) fun z ls h y hy => ?_
  rcases hG _ (lkp_mem h) with h | h | h
  · cases h
    rw [List.mem_singleton.mp hy]
    simp [h2]
  · cases h
    rw [List.mem_singleton.mp hy]
    simp [h2, h3, h1.symm]
  · cases h
    cases hy
theorem ring_bad {lib : Str → Option ND} {a b p q f : Str} {n : Int} (L : Lib84 lib p q f) (ha : IsNm a) (hb : IsNm b) (hab : a ≠ b) : netBadP lib (ringP a b p n 0) [a] (.n (.ring (slash a "m"))) ∧ netBadP lib (ringQ a b p n 0) [a] (.n (.ring b)) := by
  have h1 := slash_ne (w := a) (z := "m") ha
  have h2 := slash_ne (w := a) (z := "m") hb
  have r := rch3 h1 h2 hab
  have fi := fine_ring (a := a) (b := b) (n := n) (d := 0) L.p
  have wi := wired_ring (a := a) (b := b) (p := p) (n := n) (d := 0) hab
  refine ⟨⟨⟨⟨by show 2 ≤ 16; decide, wi.1, by show 0 ≤ 4; decide⟩, fi.1, by rw [plain_ring L.p]; show 3 ≤ 24; decide⟩, by rw [plain_ring L.p]; show 0 ≤ 8; decide, by rw [plain_ring L.p]; rfl, ?_⟩, ⟨⟨⟨by show 2 ≤ 16; decide, wi.2, by show 0 ≤ 4; decide⟩, fi.2, by rw [plain_ringQ L.p]; show 3 ≤ 24; decide⟩, by rw [plain_ringQ L.p]; show 0 ≤ 8; decide, by rw [plain_ringQ L.p]; rfl, ?_⟩⟩
  · rw [plain_ring L.p, show graphP [.mix (slash a "m") [⟨1, 0, b⟩], .mix a [⟨1, 0, slash a "m"⟩], .mix b [⟨n, 0, a⟩]] = [(slash a "m", [b]), (a, [slash a "m"]), (b, [a])] from rfl]
    exact .inr ⟨0, _, rfl, r.1, fun j y hj => absurd hj (Nat.not_lt_zero _), rfl⟩
  · rw [plain_ringQ L.p, show graphP [.mix b [⟨n, 0, a⟩], .mix (slash a "m") [⟨1, 0, b⟩], .mix a [⟨1, 0, slash a "m"⟩]] = [(b, [a]), (slash a "m", [b]), (a, [slash a "m"])] from rfl]
    exact .inr ⟨0, _, rfl, r.2, fun j y hj => absurd hj (Nat.not_lt_zero _), rfl⟩
theorem ring_ok {lib : Str → Option ND} {a b p q f : Str} {n d : Int} (L : Lib84 lib p q f) (ha : IsNm a) (hb : IsNm b) (hp : IsNm p) (hab : a ≠ b) (n0 : 0 ≤ n) (n1 : n ≤ 2) (d0 : 0 < d) (d1 : d ≤ 2) : NetPOk lib (ringP a b p n d) [a] ∧ NetPOk lib (ringQ a b p n d) [a] := by
  have h1 := slash_ne (w := a) (z := "m") ha
  have h2 := slash_ne (w := a) (z := "m") hb
  have fi := fine_ring (a := a) (b := b) (n := n) (d := d) L.p
  have wi := wired_ring (a := a) (b := b) (p := p) (n := n) (d := d) hab
  have pa := parts_ring (p := p) ha hb hp n0 n1 (by omega) d1
  have w1 := net_wired wi.1
  have w2 := net_wired wi.2
  have os : OsOk [a] := ⟨fun z hz => by rw [List.mem_singleton.mp hz]; exact ha, by show 1 ≤ 1; decide, by show 1 ≤ 4; decide⟩
  have ld : leadsP (.mix b [⟨n, d, a⟩]) = [] := by rw [leads_mix1, if_neg (by omega)]
  refine ⟨⟨fun x hx => pa x (.inl hx), by show 2 ≤ 16; decide, w1.nd, w1.known, os, w1.outs, by show 0 ≤ 4; decide, fi.1, by rw [plain_ring L.p]; show 3 ≤ 24; decide, by rw [plain_ring L.p]; show 0 ≤ 8; decide, by rw [plain_ring L.p]; rfl, ?_⟩, ⟨fun x hx => pa x (.inr hx), by show 2 ≤ 16; decide, w2.nd, w2.known, os, w2.outs, by show 0 ≤ 4; decide, fi.2, by rw [plain_ringQ L.p]; show 3 ≤ 24; decide, by rw [plain_ringQ L.p]; show 0 ≤ 8; decide, by rw [plain_ringQ L.p]; rfl, ?_⟩⟩
  · rw [plain_ring L.p]
    refine norch3 h1 h2 hab _ fun g hg => ?_
    rcases mem3 (show g ∈ [(slash a "m", [b]), (a, [slash a "m"]), (b, leadsP (.mix b [⟨n, d, a⟩]))] from hg) with h | h | h
    · exact .inl h
    · exact .inr (.inl h)
    · rw [ld] at h
      exact .inr (.inr h)
  · rw [plain_ringQ L.p]
    refine norch3 h1 h2 hab _ fun g hg => ?_
    rcases mem3 (show g ∈ [(b, leadsP (.mix b [⟨n, d, a⟩])), (slash a "m", [b]), (a, [slash a "m"])] from hg) with h | h | h
    · rw [ld] at h
      exact .inr (.inr h)
    · exact .inl h
    · exact .inr (.inl h)
/-! a box of another kind within a use -/
def someP (a b c f q k : Str) : List Pt := [.flat "source" a [], .use b q [a], .flat k c [f, b]]
theorem plain_some {lib : Str → Option ND} {a b c f q k : Str} (h : lib q = some (D2 f)) : plainU lib (someP a b c f q k) = [.flat "source" a [], .flat "plain" (slash b "m") [f, a], .mix b [⟨1, 0, slash b "m"⟩], .flat k c [f, b]] := by
  show [.flat "source" a []] ++ (unfoldU lib (.use b q [a]) ++ ([.flat k c [f, b]] ++ [])) = _
  rw [show unfoldU lib (.use b q [a]) = usePlain b (D2 f) [a] by simp only [unfoldU, h]]
  rfl
theorem parts_some {a b c f q k : Str} (hk : k = "plain" ∨ k = "odd" ∨ k = "keep") (ha : IsNm a) (hb : IsNm b) (hc : IsNm c) (hf : IsNm f) (hq : IsNm q) : ∀ x ∈ someP a b c f q k, OkP x ∧ SmP x := fun x hx => by
  have ou : OkP (.use b q [a]) := ⟨hb, hq, by show 1 ≤ 4; decide, fun e he => by rw [List.mem_singleton.mp he]; exact ha⟩
  rcases mem3 hx with rfl | rfl | rfl
  · exact sm_src ha
  · exact ⟨ou, sm_use ou⟩
  · exact sm_box hk hc hf hb
theorem wired_some {a b c f q k : Str} (hab : a ≠ b) (hac : a ≠ c) (hbc : b ≠ c) : wireFlt (someP a b c f q k) [c] = none := by
  refine wired_none ?_ (fun x hx e he => ?_) fun z hz => ?_
  · show [a, b, c].Nodup
    simp [hab, hac, hbc]
  · show e ∈ [a, b, c]
    rcases mem3 hx with rfl | rfl | rfl
    · cases he
    · rw [List.mem_singleton.mp (show e ∈ [a] from he)]; simp
    · rw [List.mem_singleton.mp (show e ∈ [b] from he)]; simp
  · show z ∈ [a, b, c]
    rw [List.mem_singleton.mp hz]; simp
theorem src_some {a b c f q k : Str} (hk : k = "plain" ∨ k = "odd" ∨ k = "keep") : (sourcesP (someP a b c f q k)).length ≤ 4 := Nat.le_trans (by unfold sourcesP; rw [List.length_map]; exact List.length_filter_le _ _) (show 3 ≤ 4 by decide)
theorem fine_some {lib : Str → Option ND} {a b c f q k : Str} (h : lib q = some (D2 f)) : UsesFine lib (someP a b c f q k) := fun j x hx => by
  rcases mem3 (List.mem_of_getElem? hx) with rfl | rfl | rfl
  · rfl
  · rw [useFlt_some h]
    rfl
  · rfl
theorem some_bad {lib : Str → Option ND} {a b c f p q k : Str} (L : Lib84 lib p q f) (hk : k = "odd" ∨ k = "keep") (hab : a ≠ b) (hac : a ≠ c) (hbc : b ≠ c) : netBadP lib (someP a b c f q k) [c] (.n (.unlike f)) := by
  refine ⟨⟨⟨by show 3 ≤ 16; decide, wired_some hab hac hbc, src_some (.inr hk)⟩, fine_some L.q, by rw [plain_some L.q]; show 4 ≤ 24; decide⟩, ?_, ?_⟩
  · rw [plain_some L.q]
    rcases hk with rfl | rfl <;> exact (show 2 ≤ 8 by decide)
  · rw [plain_some L.q]
    have e : boxesP [.flat "source" a [], .flat "plain" (slash b "m") [f, a], .mix b [⟨1, 0, slash b "m"⟩], .flat k c [f, b]] = ([(slash b "m", "plain", f), (c, k, f)] : List Bx3) := rfl
    rw [e]
    rcases hk with rfl | rfl <;> simp [unlikeOf, unlikeFrom, ofName] <;> decide +kernel
theorem some_ok {lib : Str → Option ND} {a b c f p q : Str} (L : Lib84 lib p q f) (ha : IsNm a) (hb : IsNm b) (hc : IsNm c) (hf : IsNm f) (hq : IsNm q) (hab : a ≠ b) (hac : a ≠ c) (hbc : b ≠ c) : NetPOk lib (someP a b c f q "plain") [c] := by
  have w1 := net_wired (wired_some (f := f) (q := q) (k := "plain") hab hac hbc)
  have x1 := slash_ne (w := b) (z := "m") ha
  have x2 := slash_ne (w := b) (z := "m") hb
  have x3 := slash_ne (w := b) (z := "m") hc
  refine ⟨parts_some (.inl rfl) ha hb hc hf hq, by show 3 ≤ 16; decide, w1.nd, w1.known, ⟨fun z hz => by rw [List.mem_singleton.mp hz]; exact hc, by show 1 ≤ 1; decide, by show 1 ≤ 4; decide⟩, w1.outs, src_some (.inl rfl), fine_some L.q, by rw [plain_some L.q]; show 4 ≤ 24; decide, by rw [plain_some L.q]; show 2 ≤ 8; decide, ?_, ?_⟩
  · rw [plain_some L.q]
    have e : boxesP [.flat "source" a [], .flat "plain" (slash b "m") [f, a], .mix b [⟨1, 0, slash b "m"⟩], .flat "plain" c [f, b]] = ([(slash b "m", "plain", f), (c, "plain", f)] : List Bx3) := rfl
    rw [e]
    simp [unlikeOf, unlikeFrom, ofName]
  · rw [plain_some L.q]
    refine no_ring (fun z => if z = a then 0 else if z = slash b "m" then 1 else if z = b then 2 else 3) fun z ls h y hy => ?_
    have h := lkp_mem h
    have h : (z, ls) ∈ [(a, ([] : List Str)), (slash b "m", [a]), (b, [slash b "m"]), (c, [b])] := h
    simp only [List.mem_cons, List.not_mem_nil, or_false] at h
    rcases h with h | h | h | h <;> cases h
    · cases hy
    · rw [List.mem_singleton.mp hy]
      simp [x1]
    · rw [List.mem_singleton.mp hy]
      simp [x1, x2.symm, hab.symm]
    · rw [List.mem_singleton.mp hy]
      simp [x2.symm, x3.symm, hab.symm, hac.symm, hbc.symm]
/-! uses with too many ends, of no piece -/
theorem late_parts {a b c p w : Str} {k1 k2 : Nat} (ha : IsNm a) (hb : IsNm b) (hc : IsNm c) (hp : IsNm p) (hw : IsNm w) (l1 : k1 ≤ 4) (l2 : k2 ≤ 4) : ∀ x ∈ [Pt.flat "source" a [], Pt.use b p (List.replicate k1 a), Pt.use c w (List.replicate k2 a)], OkP x ∧ SmP x := fun x hx => by
  have o1 : OkP (.use b p (List.replicate k1 a)) := ⟨hb, hp, by rw [List.length_replicate]; exact l1, fun e he => by rw [(List.mem_replicate.mp he).2]; exact ha⟩
  have o2 : OkP (.use c w (List.replicate k2 a)) := ⟨hc, hw, by rw [List.length_replicate]; exact l2, fun e he => by rw [(List.mem_replicate.mp he).2]; exact ha⟩
  rcases mem3 hx with rfl | rfl | rfl
  · exact sm_src ha
  · exact ⟨o1, sm_use o1⟩
  · exact ⟨o2, sm_use o2⟩
theorem late_wired {a b c p w : Str} {k1 k2 : Nat} (hab : a ≠ b) (hac : a ≠ c) (hbc : b ≠ c) : wireFlt [Pt.flat "source" a [], Pt.use b p (List.replicate k1 a), Pt.use c w (List.replicate k2 a)] [a] = none ∧ wireFlt [Pt.flat "source" a [], Pt.use c w (List.replicate k2 a), Pt.use b p (List.replicate k1 a)] [a] = none := by
  have r : ∀ {k : Nat} {e : Str}, e ∈ List.replicate k a → e = a := fun h => (List.mem_replicate.mp h).2
  refine ⟨wired_none ?_ (fun x hx e he => ?_) fun z hz => ?_, wired_none ?_ (fun x hx e he => ?_) fun z hz => ?_⟩
  · show [a, b, c].Nodup
    simp [hab, hac, hbc]
  · show e ∈ [a, b, c]
    rcases mem3 hx with rfl | rfl | rfl
    · cases he
    · rw [r he]; simp
    · rw [r he]; simp
  · show z ∈ [a, b, c]
    rw [List.mem_singleton.mp hz]; simp
  · show [a, c, b].Nodup
    simp [hab, hac, hbc.symm]
  · show e ∈ [a, c, b]
    rcases mem3 hx with rfl | rfl | rfl
    · cases he
    · rw [r he]; simp
    · rw [r he]; simp
  · show z ∈ [a, c, b]
    rw [List.mem_singleton.mp hz]; simp
theorem late_use {lib : Str → Option ND} {a b c x w : Str} {D : ND} {k1 k2 : Nat} (hx : lib x = some D) (hD : (sourcesP D.ps).length = 1) (hk : k1 ≠ 1) (hab : a ≠ b) (hac : a ≠ c) (hbc : b ≠ c) : netBadP lib [Pt.flat "source" a [], Pt.use b x (List.replicate k1 a), Pt.use c w (List.replicate k2 a)] [a] (.use 1) := by
  refine ⟨⟨by show 3 ≤ 16; decide, (late_wired hab hac hbc).1, by show 1 ≤ 4; decide⟩, 1, _, rfl, fun j q hj hq => ?_, ?_⟩
  · cases j with
    | zero => cases hq; rfl
    | succ j => omega
  · rw [useFlt_some hx, List.length_replicate, hD, if_neg (fun e => hk e.symm)]
theorem late_piece {lib : Str → Option ND} {a b c x w : Str} {k1 k2 : Nat} (hw : lib w = none) (hab : a ≠ b) (hac : a ≠ c) (hbc : b ≠ c) : netBadP lib [Pt.flat "source" a [], Pt.use c w (List.replicate k2 a), Pt.use b x (List.replicate k1 a)] [a] (.piece w) := by
  refine ⟨⟨by show 3 ≤ 16; decide, (late_wired hab hac hbc).2, by show 1 ≤ 4; decide⟩, 1, _, rfl, fun j q hj hq => ?_, ?_⟩
  · cases j with
    | zero => cases hq; rfl
    | succ j => omega
  · exact useFlt_none hw
theorem slash_cat {a : Str} : a ++ ("/m" : Str) = slash a "m" := by
  refine str_ext ?_
  rw [tl_slash, cps_app]
  rfl
end
end Un
namespace Un
open PySem L2 TL
section
variable {P : Program} {w : World} {K : PySem.W.Frag} {mg : Str → Option Value} {base : Heap}
open XV
theorem ok_law {fa c0 P0 C g ff U M' NL fI fb fp fa_ fnm fmx fq fw fk cP cO cU cI : Addr} {cs : Ecs} {db dp da dnm dmx dq dw dk : FuncData} {oc kV doc pm ct oc2 kV2 doc2 pm2 cdv2 ct2 : Value} {od an od2 an2 : Option Addr} {osl osl2 : Array (Option Value)} {fdF dI : FuncData} {ds : List Value} {g3 : List Value → List Value → List Value}
    (lk : K.lookup fa = some ⟨oc, od, .func (PySem.W.fnOf "law" "law" (defArgs sLaw) (defBody sLaw) (defScope sLaw) .none kV doc pm an (.ref c0) ct), osl⟩) (hcd : PySem.W.codeIn K (.ref c0) "law" = true) (TB : LamX.TabB base mg c0 P0) (TR : RangeTxt mg)
    (lkW : K.lookup g = some ⟨oc2, od2, .func (PySem.W.fnOf "_law_why" "_law_why" (defArgs sWhy) (defBody sWhy) (defScope sWhy) .none kV2 doc2 pm2 an2 cdv2 ct2), osl2⟩) (hcW : PySem.W.codeIn K cdv2 "_law_why" = true) (bW : Binds K (PySem.W.fnOf "_law_why" "_law_why" (defArgs sWhy) (defBody sWhy) (defScope sWhy) .none kV2 doc2 pm2 an2 cdv2 ct2) ["_law_ask"] []) (mW : mg "_law_why" = some (.ref g)) (kW : PySem.W.keepIn K (.ref g) = true)
    (GFd : ExR.FnE P w K mg base CX0 1 ff fdF ["_law_e"] (spFieldE K)) (bF : Binds K fdF ["_law_e"] []) (kF : PySem.W.keepIn K (.ref ff) = true) (mF : mg "_law_field" = some (.ref ff)) (mU : mg "UnopenedError" = some (.ref U)) (mM : mg "Missing" = some (.ref M')) (mN : mg "NothingLeft" = some (.ref NL))
    (mkN : Mk K C fI) (C' : NetC K C) (okN : FnOk P w K mg base (L2.CX P w) 7 fI dI netPs (spNetP K C cs cP cO cU cI)) (mN' : mg "Net" = some (.ref C)) (bN : Binds K dI netPs ds) (dN : Vals [.non] ds) (kbN : KBn K dI netPs 3 ["pieces"] g3 gN1) (eK : ErC K [.ref U, .ref M', .ref NL] cs.K) (eR : ErC K [.ref U, .ref M', .ref NL] cs.R) (eU : ErC K [.ref U, .ref M', .ref NL] cU) (eI : ErC K [.ref U, .ref M', .ref NL] cI)
    (GBg : Df P w K mg base 1 fb db "_law_bag" ["_law_script"] (spBag K)) (GP : Df P w K mg base 1 fp dp "_law_pull" ["_law_bag_here", "_law_many"] spPull) (GA : Df P w K mg base 2 fa_ da "_law_any" ["_law_bag_here", "_law_things"] (spAny K)) (GNm : Df P w K mg base 3 fnm dnm "_law_names" ["_law_bag_here", "_law_many"] spNames2)
    (GMx : Df P w K mg base 2 fmx dmx "_law_mixed" ["_law_bag_here", "_law_things"] (spMixed K))
    (GQ : Df P w K mg base 6 fq dq "_law_same" ["_law_found", "_law_due"] (spSame 6)) (MW : Mt P w K mg base C 1 fw dw "wires" ["self"] (spStrOfU C "_plain" wiresP)) (MK : Mt P w K mg base C 3 fk dk "kinds" ["self"] (spKindsU C)) :
    FnOk P w K mg base CX0 11 fa (PySem.W.fnOf "law" "law" (defArgs sLaw) (defBody sLaw) (defScope sLaw) .none kV doc pm an (.ref c0) ct) ["_law_script"] (spLawT K P0) := by
  refine fn_of lk hcd scLaw (fun vs H Q E h => ?_) (fun A outer s H vs Q E hr h => ?_)
  · obtain ⟨a, ns, rfl, _⟩ := h
    rfl
  obtain ⟨a, ns, rfl, hS, h63, hP0, q⟩ := h
  let X : Cx := (cxOf CX0 P w K mg base lawN "law" (defScope sLaw) fa (.ref c0) A outer s H E).nox
  let T : List (Addr × Str) := [(P0, X.env.qual ++ "<lambda>")]
  refine ⟨_, PSs.nox (pss_cons (ps_set (i := 1) scLaw.nd rfl (by first | exact Or.inl rfl | exact Or.inr rfl) (pe_call GBg.ok (hr.mono (by decide)) (by rfl) GBg.m GBg.kp GBg.b .nil pass0 (pa_cons (pv 0) pa_nil)))
 (pss_cons (ps_for PassesOwn.never rfl (pi_range1 (by rfl) TR.range (pa_cons pe_int pa_nil)) (pg_name (i := 2) scLaw.nd rfl (by first | exact Or.inl rfl | exact Or.inr rfl))
 (pss_cons (ps_set (i := 3) scLaw.nd rfl (by first | exact Or.inl rfl | exact Or.inr rfl) (pe_call GMx.ok (hr.mono (by decide)) (by rfl) GMx.m GMx.kp GMx.b .nil pass0 (pa_cons (pv 1) (pa_cons (pe_call GNm.ok (hr.mono (by decide)) (by rfl) GNm.m GNm.kp GNm.b .nil pass0 (pa_cons (pv 1) (pa_cons pe_int pa_nil))) pa_nil))))
 (pss_cons (ps_asg (pe_slice sl_list (pv 3) po_none (po_some pe_int)) (pg_lst (by rfl) (pgs_cons (pg_name (i := 4) scLaw.nd rfl (by first | exact Or.inl rfl | exact Or.inr rfl)) (pgs_cons (pg_name (i := 5) scLaw.nd rfl (by first | exact Or.inl rfl | exact Or.inr rfl)) (pgs_cons (pg_name (i := 6) scLaw.nd rfl (by first | exact Or.inl rfl | exact Or.inr rfl)) (pgs_cons (pg_name (i := 7) scLaw.nd rfl (by first | exact Or.inl rfl | exact Or.inr rfl)) (pgs_cons (pg_name (i := 8) scLaw.nd rfl (by first | exact Or.inl rfl | exact Or.inr rfl)) (pgs_cons (pg_name (i := 9) scLaw.nd rfl (by first | exact Or.inl rfl | exact Or.inr rfl)) pgs_nil))))))))
 (pss_cons (ps_set (i := 10) scLaw.nd rfl (by first | exact Or.inl rfl | exact Or.inr rfl) (pe_make mkN okN (hr.mono (by decide)) (by rfl) mN' bN dN passNo (pa_cons (LitX.r_lst (LitX.a_cons (LitX.r_tup (LitX.a_cons (LitX.r_c pe_str) (LitX.a_cons (LitX.r_c pe_str) LitX.a_nil))) (LitX.a_cons (LitX.r_tup (LitX.a_cons (LitX.r_c pe_str) (LitX.a_cons (LitX.r_c pe_str) (LitX.a_cons (LitX.r_tup (LitX.a_cons (LitX.r_tup (LitX.a_cons (LitX.r_c pe_int) (LitX.a_cons (LitX.r_c pe_int) (LitX.a_cons (LitX.r_c pe_str) LitX.a_nil)))) LitX.a_nil)) LitX.a_nil)))) LitX.a_nil))).pe (pa_cons (LitX.r_lst (LitX.a_cons (LitX.r_c pe_str) LitX.a_nil)).pe pa_nil))))
 (pss_cons (ps_set (i := 11) scLaw.nd rfl (by first | exact Or.inl rfl | exact Or.inr rfl) (pe_make mkN okN (hr.mono (by decide)) (by rfl) mN' bN dN passNo (pa_cons (LitX.r_lst (LitX.a_cons (LitX.r_tup (LitX.a_cons (LitX.r_c pe_str) (LitX.a_cons (LitX.r_c pe_str) LitX.a_nil))) (LitX.a_cons (LitX.r_tup (LitX.a_cons (LitX.r_c pe_str) (LitX.a_cons (LitX.r_c pe_str) (LitX.a_cons (LitX.r_s (pv 7)) (LitX.a_cons (LitX.r_c pe_str) LitX.a_nil))))) LitX.a_nil))).pe (pa_cons (LitX.r_lst (LitX.a_cons (LitX.r_c pe_str) LitX.a_nil)).pe pa_nil))))
 (pss_cons (ps_asg (pe_tup (pa_cons (pe_disp (pps_cons (pv 8) (pv 10) (pps_cons (pv 9) (pv 11) pps_nil)) (by rfl) (by rfl) (by simp) (by decide)) (pa_cons (pe_call GP.ok (hr.mono (by decide)) (by rfl) GP.m GP.kp GP.b .nil pass0 (pa_cons (pv 1) (pa_cons pe_int pa_nil))) pa_nil))) (pg_tup (by rfl) (pgs_cons (pg_name (i := 12) scLaw.nd rfl (by first | exact Or.inl rfl | exact Or.inr rfl)) (pgs_cons (pg_name (i := 13) scLaw.nd rfl (by first | exact Or.inl rfl | exact Or.inr rfl)) pgs_nil))))
 (pss_cons (ps_set (i := 14) scLaw.nd rfl (by first | exact Or.inl rfl | exact Or.inr rfl) (pe_lst (pa_cons (LitX.r_tup (LitX.a_cons (LitX.r_c pe_str) (LitX.a_cons (LitX.r_s (pv 4)) (LitX.a_cons (LitX.r_s (pv 8)) (LitX.a_cons (LitX.r_tup (LitX.a_cons (LitX.r_s (pv 5)) LitX.a_nil)) LitX.a_nil))))).pe (pa_cons (pe_tup (pa_cons pe_str (pa_cons (pv 5) (pa_cons (pe_tup (pa_cons (pe_tup (pa_cons (pe_call GP.ok (hr.mono (by decide)) (by rfl) GP.m GP.kp GP.b .nil pass0 (pa_cons (pv 1) (pa_cons pe_int pa_nil))) (pa_cons (pv 13) (pa_cons (pv 4) pa_nil)))) pa_nil)) pa_nil)))) pa_nil))))
 (C8.pss_cut (ps_set (i := 15) scLaw.nd rfl (by first | exact Or.inl rfl | exact Or.inr rfl) (pe_lst (pa_cons (LamX.pe_lamcall (X := X) (T := T) (TT := TWhy K [.ref U, .ref M', .ref NL]) (k := 8) (t := fun E => (tMeth C "wires" (spStrOfU C "_plain" wiresP) [] E0 (tMakeK C 2 ((["pieces"] : List Str).length) (spNetP K C cs cP cO cU cI) gN1 E (tCons (tVar 14) (tCons (tLst (tCons (tVar 4) tNil)) tNil)) (tCons (tVar 12) tNil)) tNil)) (by rfl) mW kW lkW hcW bW scWhy rfl (Or.inl rfl) (why_gives (hr.mono (by decide)) GFd bF kF mF mU mM mN) TB rfl (List.mem_singleton.mpr rfl) (fun p hp _ => by rw [List.mem_singleton.mp hp]) (hr.mono (by decide)) (LamX.lamS_by (sc := defScope sLaw) (by decide +kernel)) rfl (fun _ _ _ _ _ => by rfl)
   (fun A outer s H E f c' hr2 => (pe_meth0 (pe_makeK (ks := ["pieces"]) mkN okN (hr2.mono (by decide)) (by rfl) mN' kbN (passes_call (takes_of rfl rfl rfl rfl) fun _ _ _ _ h => h) (pa_cons (pv 14) (pa_cons (pe_lst (pa_cons (pv 4) pa_nil)) pa_nil)) (pk_cons (pv 12) pk_nil)) C'.cl MW.mt MW.ok (hr2.mono (by decide)) MW.b .nil pass0))) pa_nil)))
 (C8.pss_cut (ps_expr (pe_bm PySem.F.plainAttrs_list PySem.F.slot_list_append PySem.F.type_list_append mt_append (pv 15) (pa_cons (LamX.pe_lamcall (X := X) (T := T) (TT := TWhy K [.ref U, .ref M', .ref NL]) (k := 8) (t := fun E => (tMeth C "wires" (spStrOfU C "_plain" wiresP) [] E0 (tMakeK C 2 ((["pieces"] : List Str).length) (spNetP K C cs cP cO cU cI) gN1 E (tCons (tRevL K (tVar 14)) (tCons (tLst (tCons (tVar 4) tNil)) tNil)) (tCons (tVar 12) tNil)) tNil)) (by rfl) mW kW lkW hcW bW scWhy rfl (Or.inl rfl) (why_gives (hr.mono (by decide)) GFd bF kF mF mU mM mN) TB rfl (List.mem_singleton.mpr rfl) (fun p hp _ => by rw [List.mem_singleton.mp hp]) (hr.mono (by decide)) (LamX.lamS_by (sc := defScope sLaw) (by decide +kernel)) rfl (fun _ _ _ _ _ => by rfl)
   (fun A outer s H E f c' hr2 => (pe_meth0 (pe_makeK (ks := ["pieces"]) mkN okN (hr2.mono (by decide)) (by rfl) mN' kbN (passes_call (takes_of rfl rfl rfl rfl) fun _ _ _ _ h => h) (pa_cons (pe_revL (pv 14)) (pa_cons (pe_lst (pa_cons (pv 4) pa_nil)) pa_nil)) (pk_cons (pv 12) pk_nil)) C'.cl MW.mt MW.ok (hr2.mono (by decide)) MW.b .nil pass0))) pa_nil)))
 (C8.pss_cut (ps_set (i := 16) scLaw.nd rfl (by first | exact Or.inl rfl | exact Or.inr rfl) (pe_ifExp (pt_cmpR op_gt (pv 13) pe_int (nomark _)) (LitX.r_lst (LitX.a_cons (LitX.r_tup (LitX.a_cons (LitX.r_c pe_str) (LitX.a_cons (LitX.r_lst (LitX.a_cons (LitX.r_cat (by decide) (pe_op op_add_str (pv 4) pe_str)) (LitX.a_cons (LitX.r_s (pv 4)) (LitX.a_cons (LitX.r_s (pv 5)) LitX.a_nil)))) LitX.a_nil))) (LitX.a_cons (LitX.r_tup (LitX.a_cons (LitX.r_c pe_str) (LitX.a_cons (LitX.r_lst (LitX.a_cons (LitX.r_s (pv 5)) (LitX.a_cons (LitX.r_cat (by decide) (pe_op op_add_str (pv 4) pe_str)) (LitX.a_cons (LitX.r_s (pv 4)) LitX.a_nil)))) LitX.a_nil))) LitX.a_nil))).pe (LitX.r_lst (LitX.a_cons (LitX.r_tup (LitX.a_cons (LitX.r_c pe_str) (LitX.a_cons (LitX.r_tup (LitX.a_cons (LitX.r_cat (by decide) (pe_op op_add_str (pv 4) pe_str)) LitX.a_nil)) LitX.a_nil))) (LitX.a_cons (LitX.r_tup (LitX.a_cons (LitX.r_c pe_str) (LitX.a_cons (LitX.r_tup (LitX.a_cons (LitX.r_s (pv 5)) LitX.a_nil)) LitX.a_nil))) LitX.a_nil))).pe))
 (pss_cons (ps_if (pt_not (pt_val (pe_call GQ.ok (hr.mono (by decide)) (by rfl) GQ.m GQ.kp GQ.b .nil pass0 (pa_cons (pv 15) (pa_cons (pv 16) pa_nil)))))
 (pss_one (ps_ret pe_bl))
 pss_nil)
 (pss_cons (ps_set (i := 17) scLaw.nd rfl (by first | exact Or.inl rfl | exact Or.inr rfl) (pe_call GA.ok (hr.mono (by decide)) (by rfl) GA.m GA.kp GA.b .nil pass0 (pa_cons (pv 1) (pa_cons (LitX.r_lst (LitX.a_cons (LitX.r_c pe_str) (LitX.a_cons (LitX.r_c pe_str) (LitX.a_cons (LitX.r_c pe_str) LitX.a_nil)))).pe pa_nil))))
 (pss_cons (ps_set (i := 18) scLaw.nd rfl (by first | exact Or.inl rfl | exact Or.inr rfl) (LitX.r_lst (LitX.a_cons (LitX.r_tup (LitX.a_cons (LitX.r_c pe_str) (LitX.a_cons (LitX.r_s (pv 4)) LitX.a_nil))) (LitX.a_cons (LitX.r_tup (LitX.a_cons (LitX.r_c pe_str) (LitX.a_cons (LitX.r_s (pv 5)) (LitX.a_cons (LitX.r_s (pv 9)) (LitX.a_cons (LitX.r_tup (LitX.a_cons (LitX.r_s (pv 4)) LitX.a_nil)) LitX.a_nil))))) (LitX.a_cons (LitX.r_tup (LitX.a_cons (LitX.r_s (pv 17)) (LitX.a_cons (LitX.r_s (pv 6)) (LitX.a_cons (LitX.r_s (pv 7)) (LitX.a_cons (LitX.r_s (pv 5)) LitX.a_nil))))) LitX.a_nil)))).pe)
 (C8.pss_cut (ps_set (i := 19) scLaw.nd rfl (by first | exact Or.inl rfl | exact Or.inr rfl) (LamX.pe_lamcall (X := X) (T := T) (TT := TWhy K [.ref U, .ref M', .ref NL]) (k := 8) (t := fun E => (tMeth C "kinds" (spKindsU C) [] E0 (tMakeK C 2 ((["pieces"] : List Str).length) (spNetP K C cs cP cO cU cI) gN1 E (tCons (tVar 18) (tCons (tLst (tCons (tVar 6) tNil)) tNil)) (tCons (tVar 12) tNil)) tNil)) (by rfl) mW kW lkW hcW bW scWhy rfl (Or.inl rfl) (why_gives (hr.mono (by decide)) GFd bF kF mF mU mM mN) TB rfl (List.mem_singleton.mpr rfl) (fun p hp _ => by rw [List.mem_singleton.mp hp]) (hr.mono (by decide)) (LamX.lamS_by (sc := defScope sLaw) (by decide +kernel)) rfl (fun _ _ _ _ _ => by rfl)
   (fun A outer s H E f c' hr2 => (pe_meth0 (pe_makeK (ks := ["pieces"]) mkN okN (hr2.mono (by decide)) (by rfl) mN' kbN (passes_call (takes_of rfl rfl rfl rfl) fun _ _ _ _ h => h) (pa_cons (pv 18) (pa_cons (pe_lst (pa_cons (pv 6) pa_nil)) pa_nil)) (pk_cons (pv 12) pk_nil)) C'.cl MK.mt MK.ok (hr2.mono (by decide)) MK.b .nil pass0))))
 (C8.pss_cut (ps_if (PW.pt (pw_or (pt_not (pt_val (pe_call GQ.ok (hr.mono (by decide)) (by rfl) GQ.m GQ.kp GQ.b .nil pass0 (pa_cons (pe_ix ix_tup (pv 19) pe_int (fun _ _ => rfl)) (pa_cons (pe_ifExp (pt_cmpR op_eq (pv 17) pe_str (nomark _)) pe_str pe_str) pa_nil))))) (pw_or1 (PW.pt (pw_and (pt_cmpR op_ne (pe_ix ix_tup (pv 19) pe_int (fun _ _ => rfl)) pe_str (nomark _)) (pw_and1 (pt_not (pt_val (pe_call GQ.ok (hr.mono (by decide)) (by rfl) GQ.m GQ.kp GQ.b .nil pass0 (pa_cons (pe_ix ix_tup (pv 19) pe_int (fun _ _ => rfl)) (pa_cons (LitX.r_tup (LitX.a_cons (LitX.r_s (pv 7)) LitX.a_nil)).pe pa_nil)))))))))))
 (pss_one (ps_ret pe_bl))
 pss_nil)
 (pss_cons (ps_set (i := 20) scLaw.nd rfl (by first | exact Or.inl rfl | exact Or.inr rfl) (pe_lst (pa_cons (pe_tup (pa_cons pe_str (pa_cons (pv 5) (pa_cons (pe_call GA.ok (hr.mono (by decide)) (by rfl) GA.m GA.kp GA.b .nil pass0 (pa_cons (pv 1) (pa_cons (LitX.r_lst (LitX.a_cons (LitX.r_s (pv 8)) (LitX.a_cons (LitX.r_s (pv 9)) LitX.a_nil))).pe pa_nil))) (pa_cons (pe_op TRep.op_repS (LitX.r_tup (LitX.a_cons (LitX.r_s (pv 4)) LitX.a_nil)).pe (pe_call GA.ok (hr.mono (by decide)) (by rfl) GA.m GA.kp GA.b .nil pass0 (pa_cons (pv 1) (pa_cons (LitX.r_lst (LitX.a_cons (LitX.r_c pe_int) (LitX.a_cons (LitX.r_c pe_int) (LitX.a_cons (LitX.r_c pe_int) (LitX.a_cons (LitX.r_c pe_int) LitX.a_nil))))).pe pa_nil)))) pa_nil))))) (pa_cons (pe_tup (pa_cons pe_str (pa_cons (pv 6) (pa_cons (pe_ix ix_list (pv 3) pe_int (fun _ _ => rfl)) (pa_cons (pe_op TRep.op_repS (LitX.r_tup (LitX.a_cons (LitX.r_s (pv 4)) LitX.a_nil)).pe (pe_call GP.ok (hr.mono (by decide)) (by rfl) GP.m GP.kp GP.b .nil pass0 (pa_cons (pv 1) (pa_cons pe_int pa_nil)))) pa_nil))))) pa_nil))))
 (pss_cons (ps_set (i := 21) scLaw.nd rfl (by first | exact Or.inl rfl | exact Or.inr rfl) (pe_call GP.ok (hr.mono (by decide)) (by rfl) GP.m GP.kp GP.b .nil pass0 (pa_cons (pv 1) (pa_cons pe_int pa_nil))))
 (C8.pss_cut (ps_set (i := 22) scLaw.nd rfl (by first | exact Or.inl rfl | exact Or.inr rfl) (pe_op op_cat (LitX.r_lst (LitX.a_cons (LitX.r_tup (LitX.a_cons (LitX.r_c pe_str) (LitX.a_cons (LitX.r_s (pv 4)) LitX.a_nil))) LitX.a_nil)).pe (pe_ifExp (pt_cmpR op_eq (pv 21) pe_int (nomark _)) (pe_lst (pa_cons (pe_ix ix_list (pv 20) pe_int (fun _ _ => rfl)) (pa_cons (pe_ix ix_list (pv 20) pe_int (fun _ _ => rfl)) pa_nil))) (pe_lst (pa_cons (pe_ix ix_list (pv 20) pe_int (fun _ _ => rfl)) (pa_cons (pe_ix ix_list (pv 20) pe_int (fun _ _ => rfl)) pa_nil))))))
 (pss_one (ps_if (pt_not (pt_val (pe_call GQ.ok (hr.mono (by decide)) (by rfl) GQ.m GQ.kp GQ.b .nil pass0 (pa_cons (LamX.pe_lamcall (X := X) (T := T) (TT := TWhy K [.ref U, .ref M', .ref NL]) (k := 8) (t := fun E => (tMakeK C 2 ((["pieces"] : List Str).length) (spNetP K C cs cP cO cU cI) gN1 E (tCons (tVar 22) (tCons (tLst (tCons (tVar 4) tNil)) tNil)) (tCons (tVar 12) tNil))) (by rfl) mW kW lkW hcW bW scWhy rfl (Or.inl rfl) (why_gives (hr.mono (by decide)) GFd bF kF mF mU mM mN) TB rfl (List.mem_singleton.mpr rfl) (fun p hp _ => by rw [List.mem_singleton.mp hp]) (hr.mono (by decide)) (LamX.lamS_by (sc := defScope sLaw) (by decide +kernel)) rfl (fun _ _ _ _ _ => by rfl)
   (fun A outer s H E f c' hr2 => (pe_makeK (ks := ["pieces"]) mkN okN (hr2.mono (by decide)) (by rfl) mN' kbN (passes_call (takes_of rfl rfl rfl rfl) fun _ _ _ _ h => h) (pa_cons (pv 22) (pa_cons (pe_lst (pa_cons (pv 4) pa_nil)) pa_nil)) (pk_cons (pv 12) pk_nil)))) (pa_cons (pe_ifExp (pt_cmpR op_eq (pv 21) pe_int (nomark _)) (LitX.r_tup (LitX.a_cons (LitX.r_c pe_str) (LitX.a_cons (LitX.r_tup (LitX.a_cons (LitX.r_c pe_int) LitX.a_nil)) LitX.a_nil))).pe (pe_tup (pa_cons pe_str (pa_cons (pe_tup (pa_cons (pe_ix ix_list (pv 3) pe_int (fun _ _ => rfl)) pa_nil)) pa_nil)))) pa_nil)))))
 (pss_one (ps_ret pe_bl))
 pss_nil))))))))))))))))))))
 (pss_one (ps_ret pe_bl)))), ?_⟩
  refine ⟨_, rfl, a, ns, rfl, hS, h63, fun b c H1 s1 hb hc B1 => ?_⟩
  have t1 : LamX.Tabs T H1 := fun p hp => by
    rw [List.mem_singleton.mp hp]
    exact LamX.TabS.nil (s1 _ _ hP0)
  refine ⟨2, rfl, by decide, by decide, ?_⟩
  refine for_range (lo := 0) (n := 2) (fun i σ H2 => (∃ v2 v3 v4 v5 v6 v7 v8 v9 v10 v11 v12 v13 v14 v15 v16 v17 v18 v19 v20 v21 v22, σ = [some (.ref a), some (.ref b), v2, v3, v4, v5, v6, v7, v8, v9, v10, v11, v12, v13, v14, v15, v16, v17, v18, v19, v20, v21, v22]) ∧ Bag H2 b c ∧ LamX.Tabs T H2) ⟨⟨_, _, _, _, _, _, _, _, _, _, _, _, _, _, _, _, _, _, _, _, _, rfl⟩, B1, t1⟩ ?_ ?_
  case refine_2 =>
    rintro σ H2 ⟨⟨v2, v3, v4, v5, v6, v7, v8, v9, v10, v11, v12, v13, v14, v15, v16, v17, v18, v19, v20, v21, v22, rfl⟩, B2, t2⟩
    exact q H2
  rintro i σ H2 hi ⟨⟨v2, v3, v4, v5, v6, v7, v8, v9, v10, v11, v12, v13, v14, v15, v16, v17, v18, v19, v20, v21, v22, rfl⟩, B2, t2⟩
  -- words
  refine ⟨.ref b, rfl, .ref b, rfl, b, c, 12, rfl, B2, by decide, by decide, fun L ws H3 hwl hwn hwd B3 k3 hL hL3 => ?_⟩
  have nL : L ≠ b := B2.fresh hL
  refine ⟨b, c, L, ws.map V.str, rfl, B3, nL, SqL.of hL3, by rw [List.length_map]; omega, fun M ys H4 hperm B4 k4 hM nM hM4 => ?_⟩
  obtain ⟨zs, rfl, hzp⟩ := perm_strs hperm
  have zl : zs.length = 12 := by have := hzp.length_eq; omega
  have zn : ∀ z ∈ zs, IsNm z := fun z hz => hwn z (hzp.mem_iff.mp hz)
  have zd : zs.Nodup := hzp.nodup_iff.mpr hwd
  have t4 : LamX.Tabs T H4 := Tabs_kp B3 k4 (Tabs_kp B2 k3 t2)
  obtain ⟨za, zb, zc, zf, zp, zq, z6, zr, rfl⟩ : ∃ za zb zc zf zp zq z6 zr, zs = za :: zb :: zc :: zf :: zp :: zq :: z6 :: zr := by
    match zs, zl with
    | za :: zb :: zc :: zf :: zp :: zq :: z6 :: zr, _ => exact ⟨za, zb, zc, zf, zp, zq, z6, zr, rfl⟩
  have na : IsNm za := zn _ (by simp)
  have nb : IsNm zb := zn _ (by simp)
  have nc : IsNm zc := zn _ (by simp)
  have nf : IsNm zf := zn _ (by simp)
  have np : IsNm zp := zn _ (by simp)
  have nq : IsNm zq := zn _ (by simp)
  have n6 : IsNm z6 := zn _ (by simp)
  simp only [List.nodup_cons, List.mem_cons, not_or] at zd
  obtain ⟨⟨dab, dac, -⟩, ⟨dbc, -⟩, -, -, ⟨dpq, dp6, -⟩, ⟨dq6, -⟩, -⟩ := zd
  have dab : za ≠ zb := dab
  have dac : za ≠ zc := dac
  have dbc : zb ≠ zc := dbc
  have dpq : zp ≠ zq := dpq
  have dp6 : zp ≠ z6 := dp6
  have dq6 : zq ≠ z6 := dq6
  clear hL hL3 nL k3 k4 B3 hperm t2 zn
  refine ⟨_, rfl, 6, rfl, M, _, rfl, SqL.of hM4, fun m hm => ?_⟩
  rw [show cutV ((za :: zb :: zc :: zf :: zp :: zq :: z6 :: zr).map V.str) none (some 6) = [V.str za, V.str zb, V.str zc, V.str zf, V.str zp, V.str zq] from cut_head (za :: zb :: zc :: zf :: zp :: zq :: z6 :: zr) 6]
  have s5 := same_upd hm (.lst [V.str za, V.str zb, V.str zc, V.str zf, V.str zp, V.str zq])
  have hm5 : upd H4 m (.lst [V.str za, V.str zb, V.str zc, V.str zf, V.str zp, V.str zq]) m = some (.lst [V.str za, V.str zb, V.str zc, V.str zf, V.str zp, V.str zq]) := upd_same
  generalize upd H4 m (.lst [V.str za, V.str zb, V.str zc, V.str zf, V.str zp, V.str zq]) = H5 at s5 hm5 ⊢
  refine ⟨m, _, rfl, SqL.of hm5, rfl, _, _, rfl, _, _, rfl, _, _, rfl, _, _, rfl, _, _, rfl, _, _, rfl, rfl, ?_⟩
  have B5 := B4.same s5
  have t5 := t4.ext s5
  have hM5 := s5 _ _ hM4
  clear hm s5 hm5 t4 hM4 B4
  -- the first net
  refine ⟨by simp, fun v H6 s6 hv => ?_⟩
  obtain ⟨A1, _, rfl, fA1, hA1, ⟨_, _, rfl, ⟨A2, _, rfl, fA2, hA2, ⟨_, _, rfl, rfl, ⟨_, _, rfl, rfl, rfl⟩⟩⟩, ⟨_, _, rfl, ⟨A3, _, rfl, fA3, hA3, ⟨_, _, rfl, rfl, ⟨_, _, rfl, rfl, ⟨_, _, rfl, ⟨A4, _, rfl, fA4, hA4, ⟨_, _, rfl, ⟨A5, _, rfl, fA5, hA5, ⟨_, _, rfl, rfl, ⟨_, _, rfl, rfl, ⟨_, _, rfl, rfl, rfl⟩⟩⟩⟩, rfl⟩⟩, rfl⟩⟩⟩⟩, rfl⟩⟩⟩ := hv
  refine ⟨by simp, fun v H7 s7 hv => ?_⟩
  obtain ⟨A6, _, rfl, fA6, hA6, ⟨_, _, rfl, rfl, rfl⟩⟩ := hv
  intro y1 dx1 hy1 hdx1 ndx1
  have r8 := mk_same (C := C) hy1 hdx1
  have hy8 : upd (upd H7 dx1 (.own y1)) y1 (.ins C dx1 []) y1 = some (.ins C dx1 []) := upd_same
  generalize upd (upd H7 dx1 (.own y1)) y1 (.ins C dx1 []) = H8 at r8 hy8 ⊢
  have s78 := s7.trans r8
  have s58 := s6.trans s78
  show spNetP K C cs cP cO cU cI [.ref y1, .ref A1, .ref A6, .non] _ _ _
  refine made_good (lib := lib0) (us := [V.ref A2, V.ref A3]) (ps := ps1) (os := ["m"]) hy8 (.inl (s78 _ _ hA1)) (all2_cons ⟨A2, rfl, s78 _ _ hA2⟩ (all2_cons ⟨A3, A4, [.ref A5], rfl, s78 _ _ hA3, s78 _ _ hA4, all2_cons ⟨A5, rfl, s78 _ _ hA5⟩ .nil⟩ .nil)) (.inl (r8 _ _ hA6)) (.inl ⟨rfl, fun _ => rfl⟩) (lib0_ok (m := 0)) (by decide) ok_ps1 fun H9 k9 pa => ⟨rfl, ?_⟩
  have s59 : Same H5 H9 := mk_kx (s6.trans s7) hy1 r8 k9
  have n1 : NetB b H9 C y1 D1 := pa.b (lib0_ok (m := 0)) (by decide) (B5.same s58)
  have B9 := B5.same s59
  have t9 := t5.ext s59
  have hM9 := s59 _ _ hM5
  clear s58 s78 s6 s7 r8 k9 pa s59 hA1 hA2 hA3 hA4 hA5 hA6 fA1 fA2 fA3 fA4 fA5 fA6 hy8 hy1 hdx1 ndx1 B5 t5 hM5
  -- the second net
  refine ⟨by simp, fun v H6 s6 hv => ?_⟩
  obtain ⟨A1, _, rfl, fA1, hA1, ⟨_, _, rfl, ⟨A2, _, rfl, fA2, hA2, ⟨_, _, rfl, rfl, ⟨_, _, rfl, rfl, rfl⟩⟩⟩, ⟨_, _, rfl, ⟨A3, _, rfl, fA3, hA3, ⟨_, _, rfl, rfl, ⟨_, _, rfl, rfl, ⟨_, _, rfl, rfl, ⟨_, _, rfl, rfl, rfl⟩⟩⟩⟩⟩, rfl⟩⟩⟩ := hv
  refine ⟨by simp, fun v H7 s7 hv => ?_⟩
  obtain ⟨A6, _, rfl, fA6, hA6, ⟨_, _, rfl, rfl, rfl⟩⟩ := hv
  intro y2 dx1 hy1 hdx1 ndx1
  have r8 := mk_same (C := C) hy1 hdx1
  have hy8 : upd (upd H7 dx1 (.own y2)) y2 (.ins C dx1 []) y2 = some (.ins C dx1 []) := upd_same
  generalize upd (upd H7 dx1 (.own y2)) y2 (.ins C dx1 []) = H8 at r8 hy8 ⊢
  have s78 := s7.trans r8
  have s58 := s6.trans s78
  show spNetP K C cs cP cO cU cI [.ref y2, .ref A1, .ref A6, .non] _ _ _
  refine made_good (lib := lib0) (us := [V.ref A2, V.ref A3]) (ps := ps2 zf) (os := ["m"]) hy8 (.inl (s78 _ _ hA1)) (all2_cons ⟨A2, rfl, s78 _ _ hA2⟩ (all2_cons ⟨A3, rfl, s78 _ _ hA3⟩ .nil)) (.inl (r8 _ _ hA6)) (.inl ⟨rfl, fun _ => rfl⟩) (lib0_ok (m := 0)) (by decide) (ok_ps2 nf) fun H10 k9 pa => ⟨rfl, ?_⟩
  have s59 : Same H9 H10 := mk_kx (s6.trans s7) hy1 r8 k9
  have n2 : NetB b H10 C y2 (D2 zf) := pa.b (lib0_ok (m := 0)) (by decide) (B9.same s58)
  have B10 := B9.same s59
  have t10 := t9.ext s59
  have hM10 := s59 _ _ hM9
  have n1 := n1.same s59
  clear s58 s78 s6 s7 r8 k9 pa s59 hA1 hA2 hA3 hA6 fA1 fA2 fA3 fA6 hy8 hy1 hdx1 ndx1 B9 t9 hM9
  -- the pieces, the delay
  intro d hd
  refine ⟨_, rfl, _, rfl, _, rfl, _, rfl, upd_same, [(Sum.inr zp, .ref y1), (Sum.inr zq, .ref y2)], rfl, by show 2 ≤ 15; decide, ?_⟩
  have s11 : Same H10 (upd (upd H10 d (.dK [])) d (.dK (mergeK [] [(Sum.inr zp, .ref y1), (Sum.inr zq, .ref y2)]))) := fun e o he => by
    rw [upd_ne (ne_of_none he hd), upd_ne (ne_of_none he hd)]
    exact he
  have hd11 : upd (upd H10 d (.dK [])) d (.dK (mergeK [] [(Sum.inr zp, .ref y1), (Sum.inr zq, .ref y2)])) d = some (.dK (mergeK [] [(Sum.inr zp, .ref y1), (Sum.inr zq, .ref y2)])) := upd_same
  generalize upd (upd H10 d (.dK [])) d (.dK (mergeK [] [(Sum.inr zp, .ref y1), (Sum.inr zq, .ref y2)])) = H11 at s11 hd11 ⊢
  obtain ⟨lib, Lb, pc11, lib6⟩ : ∃ lib, Lib84 lib zp zq zf ∧ PcB b H11 C d lib ∧ lib z6 = none := by
    refine ⟨fun z => if z = zp then some D1 else if z = zq then some (D2 zf) else none, ⟨if_pos rfl, by rw [if_neg dpq.symm, if_pos rfl], fun z D e => ?_⟩, ⟨_, hd11, fun z => ?_⟩, by show (if z6 = zp then some D1 else if z6 = zq then some (D2 zf) else none) = none; rw [if_neg dp6.symm, if_neg dq6.symm]⟩
    · by_cases e1 : z = zp
      · rw [if_pos e1] at e
        cases e
        exact d1_ok
      · rw [if_neg e1] at e
        by_cases e2 : z = zq
        · rw [if_pos e2] at e
          cases e
          exact d2_ok nf
        · rw [if_neg e2] at e
          cases e
    · have ev : valV (mergeK [] [(Sum.inr zp, .ref y1), (Sum.inr zq, .ref y2)]) (Sum.inr z) = if z = zq then some (.ref y2) else if z = zp then some (.ref y1) else none := by
        show valV (putK (putK [] (Sum.inr zp) (.ref y1)) (Sum.inr zq) (.ref y2)) (Sum.inr z) = _
        rw [valV_put, valV_put]
        simp only [Sum.inr.injEq]
        rfl
      dsimp only
      by_cases e1 : z = zp
      · rw [if_pos e1]
        exact ⟨y1, by rw [ev, if_neg (by rw [e1]; exact dpq), if_pos e1], n1.same s11⟩
      · rw [if_neg e1]
        by_cases e2 : z = zq
        · rw [if_pos e2]
          exact ⟨y2, by rw [ev, if_pos e2], n2.same s11⟩
        · rw [if_neg e2]
          show valV _ _ = none
          rw [ev, if_neg e2, if_neg e1]
  have B11 := B10.same s11
  refine ⟨.ref b, rfl, b, c, 3, rfl, B11, by decide, by decide, fun dl H12 d0 d3 B12 k12 => ?_⟩
  refine ⟨(by show 2 ≤ sizeLine; decide), fun t ht => ?_⟩
  have s13 := same_upd ht (.tup [.ref d, .int dl])
  have ht13 : upd H12 t (.tup [.ref d, .int dl]) t = some (.tup [.ref d, .int dl]) := upd_same
  generalize upd H12 t (.tup [.ref d, .int dl]) = H13 at s13 ht13 ⊢
  refine ⟨t, _, rfl, SqT.of ht13, rfl, _, _, rfl, _, _, rfl, rfl, ?_⟩
  have B13 := B12.same s13
  have pc13 := (pc11.kpN B11 (Kp.n k12)).same s13
  have t13 := (Tabs_kp B11 k12 (t10.ext s11)).ext s13
  have hM13 := s13 _ _ (k12 _ _ (s11 _ _ hM10) nM)
  clear ht ht13 s13 B12 k12 B11 pc11 s11 hd11 n1 n2 B10 t10 hM10 hd
  -- the ring
  refine ⟨by simp, fun v H14 s14 hv => ?_⟩
  obtain ⟨A1, _, rfl, fA1, hA1, ⟨_, _, rfl, rfl, ⟨_, _, rfl, rfl, ⟨_, _, rfl, rfl, ⟨_, _, rfl, ⟨A2, _, rfl, fA2, hA2, ⟨_, _, rfl, rfl, rfl⟩⟩, rfl⟩⟩⟩⟩⟩ := hv
  refine ⟨_, rfl, .ref b, rfl, b, c, 3, rfl, B13.same s14, by decide, by decide, fun n H15 n0 n3 B15 k15 => ?_⟩
  refine ⟨_, rfl, _, rfl, (by show 3 ≤ sizeLine; decide), fun t1 ht1 => ⟨(by show 1 ≤ sizeLine; decide), fun t2 ht2 => ⟨(by show 3 ≤ sizeLine; decide), fun t3 ht3 => ⟨(by show 2 ≤ sizeLine; decide), fun rl hrl => ?_⟩⟩⟩⟩
  have q1 := same_upd ht1 (.tup [.int n, .int dl, .str za])
  have e1 : upd H15 t1 (.tup [.int n, .int dl, .str za]) t1 = some (.tup [.int n, .int dl, .str za]) := upd_same
  generalize upd H15 t1 (.tup [.int n, .int dl, .str za]) = H16 at q1 e1 ht2 ht3 hrl ⊢
  have q2 := same_upd ht2 (.tup [.ref t1])
  have e2 : upd H16 t2 (.tup [.ref t1]) t2 = some (.tup [.ref t1]) := upd_same
  generalize upd H16 t2 (.tup [.ref t1]) = H17 at q2 e2 ht3 hrl ⊢
  have q3 := same_upd ht3 (.tup [.str "mix", .str zb, .ref t2])
  have e3 : upd H17 t3 (.tup [.str "mix", .str zb, .ref t2]) t3 = some (.tup [.str "mix", .str zb, .ref t2]) := upd_same
  generalize upd H17 t3 (.tup [.str "mix", .str zb, .ref t2]) = H18 at q3 e3 hrl ⊢
  have q4 := same_upd hrl (.lst [.ref A1, .ref t3])
  have hrl0 : upd H18 rl (.lst [.ref A1, .ref t3]) rl = some (.lst [.ref A1, .ref t3]) := upd_same
  have nrl : rl ≠ b := (((B15.same q1).same q2).same q3).fresh hrl
  generalize upd H18 rl (.lst [.ref A1, .ref t3]) = G0 at q4 hrl0 ⊢
  have q14 := ((q1.trans q2).trans q3).trans q4
  have tu := k15.tups (B13.same s14)
  have pu0 : PtAt G0 (.ref A1) (.use za zp [zb]) := ⟨A1, A2, rfl, q14 _ _ (tu _ _ hA1), q14 _ _ (tu _ _ hA2)⟩
  have pm0 : PtAt G0 (.ref t3) (.mix zb [⟨n, dl, za⟩]) := ⟨t3, t2, [.ref t1], rfl, q4 _ _ e3, q4 _ _ (q3 _ _ e2), all2_cons ⟨t1, rfl, q4 _ _ (q3 _ _ (q2 _ _ e1))⟩ .nil⟩
  have B0 := B15.same q14
  have T0 := (Tabs_kp (B13.same s14) k15 (t13.ext s14)).ext q14
  have pc0 := ((pc13.same s14).kpN (B13.same s14) (Kp.n k15)).same q14
  have hM0 := q14 _ _ (k15 _ _ (s14 _ _ hM13) nM)
  clear hA1 hA2 fA1 fA2 B13 k15 ht1 ht2 ht3 hrl q1 q2 q3 q4 e1 e2 e3 q14 tu t13 pc13 hM13 B15 s14
  -- the first answer
  have x1 := slash_cat (a := za)
  refine ⟨fun σ' H' => (∃ fo tf v16 v17 v18 v19 v20 v21 v22, σ' = [some (.ref a), some (.ref b), some (.int (0 + (i : Int))), some (.ref M), some (.str za), some (.str zb), some (.str zc), some (.str zf), some (.str zp), some (.str zq), some (.ref y1), some (.ref y2), some (.ref d), some (.int dl), some (.ref rl), some (.ref fo), v16, v17, v18, v19, v20, v21, v22] ∧ Inv12 T b c G0 H' fo [.ref tf] ∧ AnsF fo H' tf (if dl = 0 then "Ring" else "") (decide (dl ≠ 0)) ((if dl = 0 then [slash za "m"] else [slash za "m", za, zb]).map V.str)), ?_, ?_⟩
  · refine ⟨T0, fun J eN TJ => ?_⟩
    have kJ := (KpN.refl b G0).ext eN
    have BJ := Bag_ext B0 eN
    have pcJ := pc0.kpN B0 kJ
    refine ⟨_, rfl, _, rfl, (by show 1 ≤ sizeLine; decide), fun o1 ho1 => ?_⟩
    have ro := same_upd ho1 (.lst [V.str za])
    have ho5 : upd J o1 (.lst [V.str za]) o1 = some (.lst [V.str za]) := upd_same
    generalize upd J o1 (.lst [V.str za]) = J5 at ro ho5 ⊢
    refine ⟨_, rfl, rfl, rfl, ?_⟩
    intro y dx hy hdx ndx
    have r4 := mk_same (C := C) hy hdx
    have hy6 : upd (upd J5 dx (.own y)) y (.ins C dx []) y = some (.ins C dx []) := upd_same
    generalize upd (upd J5 dx (.own y)) y (.ins C dx []) = J6 at r4 hy6 ⊢
    have k6 := kJ.same (ro.trans r4)
    have tu := k6.tups B0
    have aA : All2 (PtAt J6) [.ref A1, .ref t3] (ringP za zb zp n dl) := all2_cons (pu0.tups tu) (all2_cons (pm0.tups tu) .nil)
    have osk : OsOk [za] := ⟨fun z hz => by rw [List.mem_singleton.mp hz]; exact na, by show 1 ≤ 1; decide, by show 1 ≤ 4; decide⟩
    have pc6 := (pcJ.same (ro.trans r4)).at_
    show spNetP K C cs cP cO cU cI [.ref y, .ref rl, .ref o1, .ref d] _ _ _
    by_cases hdl : dl = 0
    · subst hdl
      refine made_bad (os := [za]) hy6 (.inl (k6.lst hrl0 nrl)) aA (fun x hx => parts_ring na nb np n0 (by omega) (by decide) (by decide) x (.inl hx)) (by show 2 ≤ 24; decide) (.inl (r4 _ _ ho5)) osk (.inr ⟨d, rfl, pc6⟩) Lb.ok (by decide) (ring_bad Lb na nb dab).1 (told_xk eR rfl (.cRing rfl) (fun {G} k => mk_kx ro hy r4 k) fun tf G told s => ?_)
      refine ⟨(by show 1 ≤ sizeLine; decide), fun fo hfo => ?_⟩
      exact ⟨fo, tf, _, _, _, _, _, _, _, rfl, .new (kJ.same s) (BJ.same s) (TJ.ext s) hfo, (AnsF.told told).same (same_upd hfo _)⟩
    · refine made_good (os := [za]) hy6 (.inl (k6.lst hrl0 nrl)) aA (.inl (r4 _ _ ho5)) (.inr ⟨d, rfl, pc6⟩) Lb.ok (by decide) (ring_ok Lb na nb np dab n0 (by omega) (by omega) (by omega)).1 fun G kG pa => ⟨rfl, ?_⟩
      have sG : Same J G := mk_kx ro hy r4 kG
      obtain ⟨dx', p, o, d', m, us, vs, h1, h2, h3, h4, h5⟩ := pa.netU Lb.ok (by decide)
      refine ⟨y, dx', _, rfl, h1, rfl, y, dx', m, _, vs, _, rfl, h1, rfl, h4, fun l H2 s2 hl hl2 => ?_⟩
      have hl2 : H2 l = some (.lst ((wiresP (plainU lib (ringP za zb zp n dl))).map V.str)) := hl2
      rw [plain_ring Lb.p] at hl2
      have s3 := sG.trans s2
      refine ⟨(by show 2 ≤ sizeLine; decide), fun tf htf => ⟨(by show 1 ≤ sizeLine; decide), fun fo hfo => ?_⟩⟩
      have q1 := same_upd htf (.tup [.str "", .ref l])
      have e1 : upd H2 tf (.tup [.str "", .ref l]) tf = some (.tup [.str "", .ref l]) := upd_same
      generalize upd H2 tf (.tup [.str "", .ref l]) = H3 at q1 e1 hfo ⊢
      have s4 := s3.trans q1
      have q2 := same_upd hfo (.lst [.ref tf])
      refine ⟨fo, tf, _, _, _, _, _, _, _, rfl, .new (kJ.same s4) (BJ.same s4) (TJ.ext s4) hfo, ?_⟩
      rw [if_neg hdl, if_neg hdl, decide_eq_true hdl]
      exact ⟨l, fun _ => ne_of_none (q1 _ _ hl2) hfo, q2 _ _ e1, q2 _ _ (q1 _ _ hl2)⟩
  rintro σ H20 ⟨fo, tf, v16, v17, v18, v19, v20, v21, v22, rfl, iv, an1⟩
  -- the second answer
  refine ⟨fun σ' H' => (∃ tf2 v16 v17 v18 v19 v20 v21 v22, σ' = [some (.ref a), some (.ref b), some (.int (0 + (i : Int))), some (.ref M), some (.str za), some (.str zb), some (.str zc), some (.str zf), some (.str zp), some (.str zq), some (.ref y1), some (.ref y2), some (.ref d), some (.int dl), some (.ref rl), some (.ref fo), v16, v17, v18, v19, v20, v21, v22] ∧ Inv12 T b c G0 H' fo [.ref tf, .ref tf2] ∧ AnsF fo H' tf (if dl = 0 then "Ring" else "") (decide (dl ≠ 0)) ((if dl = 0 then [slash za "m"] else [slash za "m", za, zb]).map V.str) ∧ AnsF fo H' tf2 (if dl = 0 then "Ring" else "") (decide (dl ≠ 0)) ((if dl = 0 then [zb] else [zb, slash za "m", za]).map V.str)), ?_, ?_⟩
  · refine ⟨.ref fo, rfl, .inl ⟨rfl, _, SqL.of iv.l⟩, iv.t, fun J eN TJ => ?_⟩
    have ivJ := iv.ext eN TJ
    have anJ := an1.ext eN
    clear iv an1 eN TJ
    refine ⟨_, rfl, rl, _, rfl, SqL.of (ivJ.k.lst hrl0 nrl), fun rv hrv => ?_⟩
    rw [show [V.ref A1, V.ref t3].reverse = [V.ref t3, V.ref A1] from rfl]
    have r1 := same_upd hrv (.lst [.ref t3, .ref A1])
    have hrv1 : upd J rv (.lst [.ref t3, .ref A1]) rv = some (.lst [.ref t3, .ref A1]) := upd_same
    generalize upd J rv (.lst [.ref t3, .ref A1]) = J1 at r1 hrv1 ⊢
    refine ⟨_, rfl, (by show 1 ≤ sizeLine; decide), fun o1 ho1 => ?_⟩
    have r2 := same_upd ho1 (.lst [V.str za])
    have ho5 : upd J1 o1 (.lst [V.str za]) o1 = some (.lst [V.str za]) := upd_same
    generalize upd J1 o1 (.lst [V.str za]) = J5 at r2 ho5 ⊢
    have ro := r1.trans r2
    refine ⟨_, rfl, rfl, rfl, ?_⟩
    intro y dx hy hdx ndx
    have r4 := mk_same (C := C) hy hdx
    have hy6 : upd (upd J5 dx (.own y)) y (.ins C dx []) y = some (.ins C dx []) := upd_same
    generalize upd (upd J5 dx (.own y)) y (.ins C dx []) = J6 at r4 hy6 ⊢
    have k6 := ivJ.k.same (ro.trans r4)
    have tu := k6.tups B0
    have aA : All2 (PtAt J6) [.ref t3, .ref A1] (ringQ za zb zp n dl) := all2_cons (pm0.tups tu) (all2_cons (pu0.tups tu) .nil)
    have osk : OsOk [za] := ⟨fun z hz => by rw [List.mem_singleton.mp hz]; exact na, by show 1 ≤ 1; decide, by show 1 ≤ 4; decide⟩
    have pc6 := (pc0.kpN B0 k6).at_
    show spNetP K C cs cP cO cU cI [.ref y, .ref rv, .ref o1, .ref d] _ _ _
    by_cases hdl : dl = 0
    · subst hdl
      refine made_bad (os := [za]) hy6 (.inl (r4 _ _ (r2 _ _ hrv1))) aA (fun x hx => parts_ring na nb np n0 (by omega) (by decide) (by decide) x (.inr hx)) (by show 2 ≤ 24; decide) (.inl (r4 _ _ ho5)) osk (.inr ⟨d, rfl, pc6⟩) Lb.ok (by decide) (ring_bad Lb na nb dab).2 (told_xk eR rfl (.cRing rfl) (fun {G} k => mk_kx ro hy r4 k) fun tf2 G told s => ?_)
      have ivG := ivJ.same s
      exact ⟨fo, _, _, rfl, rfl, ivG.l, (by show 1 + 1 ≤ sizeLine; decide), tf2, _, _, _, _, _, _, _, rfl, ivG.app, (anJ.same s).wr ivG.l _, (AnsF.told told).wr ivG.l _⟩
    · refine made_good (os := [za]) hy6 (.inl (r4 _ _ (r2 _ _ hrv1))) aA (.inl (r4 _ _ ho5)) (.inr ⟨d, rfl, pc6⟩) Lb.ok (by decide) (ring_ok Lb na nb np dab n0 (by omega) (by omega) (by omega)).2 fun G kG pa => ⟨rfl, ?_⟩
      have sG : Same J G := mk_kx ro hy r4 kG
      obtain ⟨dx', p, o, d', m, us, vs, h1, h2, h3, h4, h5⟩ := pa.netU Lb.ok (by decide)
      refine ⟨y, dx', _, rfl, h1, rfl, y, dx', m, _, vs, _, rfl, h1, rfl, h4, fun l H2 s2 hl hl2 => ?_⟩
      have hl2 : H2 l = some (.lst ((wiresP (plainU lib (ringQ za zb zp n dl))).map V.str)) := hl2
      rw [plain_ringQ Lb.p] at hl2
      have s3 := sG.trans s2
      refine ⟨(by show 2 ≤ sizeLine; decide), fun tf2 htf => ?_⟩
      have q1 := same_upd htf (.tup [.str "", .ref l])
      have e1 : upd H2 tf2 (.tup [.str "", .ref l]) tf2 = some (.tup [.str "", .ref l]) := upd_same
      generalize upd H2 tf2 (.tup [.str "", .ref l]) = H3 at q1 e1 ⊢
      have s4 := s3.trans q1
      have ivG := ivJ.same s4
      refine ⟨fo, _, _, rfl, rfl, ivG.l, (by show 1 + 1 ≤ sizeLine; decide), tf2, _, _, _, _, _, _, _, rfl, ivG.app, (anJ.same s4).wr ivG.l _, AnsF.wr ?_ ivG.l _⟩
      rw [if_neg hdl, if_neg hdl, decide_eq_true hdl]
      refine ⟨l, fun _ e => ?_, e1, q1 _ _ hl2⟩
      have := sG _ _ ivJ.l
      rw [← e, hl] at this
      cases this
  rintro σ H21 ⟨tf2, v16, v17, v18, v19, v20, v21, v22, rfl, iv2, an1, an2⟩
  clear iv
  -- what is due
  have la := na.l4
  refine ⟨fun σ' H' => (∃ du d1 d2 v17 v18 v19 v20 v21 v22, σ' = [some (.ref a), some (.ref b), some (.int (0 + (i : Int))), some (.ref M), some (.str za), some (.str zb), some (.str zc), some (.str zf), some (.str zp), some (.str zq), some (.ref y1), some (.ref y2), some (.ref d), some (.int dl), some (.ref rl), some (.ref fo), some (.ref du), v17, v18, v19, v20, v21, v22] ∧ H' du = some (.lst [.ref d1, .ref d2]) ∧ AnsAt H' d1 (if dl = 0 then "Ring" else "") (decide (dl ≠ 0)) ((if dl = 0 then [slash za "m"] else [slash za "m", za, zb]).map V.str) ∧ AnsAt H' d2 (if dl = 0 then "Ring" else "") (decide (dl ≠ 0)) ((if dl = 0 then [zb] else [zb, slash za "m", za]).map V.str)) ∧ Same H21 H', ?_, ?_⟩
  · refine ⟨_, rfl, _, 0, rfl, rfl, _, rfl, ?_⟩
    by_cases hdl : dl = 0
    · rw [show decide (dl > 0) = false from decide_eq_false (by omega)]
      refine iteF ⟨by simp; omega, fun v H6 s6 hv => ?_⟩
      obtain ⟨A1, _, rfl, fA1, hA1, ⟨_, _, rfl, ⟨A2, _, rfl, fA2, hA2, ⟨_, _, rfl, rfl, ⟨_, _, rfl, ⟨A3, _, rfl, fA3, hA3, ⟨_, _, rfl, rfl, rfl⟩⟩, rfl⟩⟩⟩, ⟨_, _, rfl, ⟨A4, _, rfl, fA4, hA4, ⟨_, _, rfl, rfl, ⟨_, _, rfl, ⟨A5, _, rfl, fA5, hA5, ⟨_, _, rfl, rfl, rfl⟩⟩, rfl⟩⟩⟩, rfl⟩⟩⟩ := hv
      refine ⟨⟨A1, A2, A4, _, _, _, _, _, _, rfl, hA1, ?_, ?_⟩, s6⟩
      · rw [if_pos hdl, if_pos hdl, decide_eq_false (fun h => h hdl), ← x1]
        exact ⟨A3, hA2, hA3⟩
      · rw [if_pos hdl, if_pos hdl, decide_eq_false (fun h => h hdl)]
        exact ⟨A5, hA4, hA5⟩
    · rw [show decide (dl > 0) = true from decide_eq_true (by omega)]
      refine iteT ⟨by simp; omega, fun v H6 s6 hv => ?_⟩
      obtain ⟨A1, _, rfl, fA1, hA1, ⟨_, _, rfl, ⟨A2, _, rfl, fA2, hA2, ⟨_, _, rfl, rfl, ⟨_, _, rfl, ⟨A3, _, rfl, fA3, hA3, ⟨_, _, rfl, rfl, ⟨_, _, rfl, rfl, ⟨_, _, rfl, rfl, rfl⟩⟩⟩⟩, rfl⟩⟩⟩, ⟨_, _, rfl, ⟨A4, _, rfl, fA4, hA4, ⟨_, _, rfl, rfl, ⟨_, _, rfl, ⟨A5, _, rfl, fA5, hA5, ⟨_, _, rfl, rfl, ⟨_, _, rfl, rfl, ⟨_, _, rfl, rfl, rfl⟩⟩⟩⟩, rfl⟩⟩⟩, rfl⟩⟩⟩ := hv
      refine ⟨⟨A1, A2, A4, _, _, _, _, _, _, rfl, hA1, ?_, ?_⟩, s6⟩
      · rw [if_neg hdl, if_neg hdl, decide_eq_true hdl, ← x1]
        exact ⟨A3, hA2, hA3⟩
      · rw [if_neg hdl, if_neg hdl, decide_eq_true hdl, ← x1]
        exact ⟨A5, hA4, hA5⟩
  rintro σ H22 ⟨⟨du, d1, d2, v17, v18, v19, v20, v21, v22, rfl, hdu, du1, du2⟩, s22⟩
  have ll : ∀ {x y z w : Str}, ((if dl = 0 then [x] else [y, z, w]).map V.str).length ≤ 1000 := fun {x y z w} => by
    rw [List.length_map]
    split
    · show 1 ≤ 1000
      decide
    · show 3 ≤ 1000
      decide
  refine ⟨.ref fo, rfl, .ref du, rfl, _, _, rfl, eqv_lst (s22 _ _ iv2.l) hdu (by show 2 ≤ 1000; decide) (all2_cons ((an1.at_.same s22).eqv du1 ll leaf_strs 2) (all2_cons ((an2.at_.same s22).eqv du2 ll leaf_strs 2) .nil)), fun H23 s23 => ⟨_, rfl, iteF ?_⟩⟩
  have s1 := s22.trans s23
  have k23 := iv2.k.same s1
  have B23 := iv2.B.same s1
  have t23 := iv2.t.ext s1
  have hM23 := k23.lst hM0 nM
  have pc23 := pc0.kpN B0 k23
  clear iv2 an1 an2 du1 du2 hdu s22 s23 s1 k23 ll pu0 pm0 hrl0 nrl pc0 hM0 B0 T0
  -- a kind
  refine ⟨.ref b, rfl, by simp, fun v H24 s24 hv => ?_⟩
  obtain ⟨A1, _, rfl, fA1, hA1, ⟨_, _, rfl, rfl, ⟨_, _, rfl, rfl, ⟨_, _, rfl, rfl, rfl⟩⟩⟩⟩ := hv
  refine ⟨b, c, .ref A1, _, rfl, B23.same s24, .inl ⟨A1, rfl, B23.fresh fA1, SqL.of hA1⟩, (by show 0 < 3; decide), (by show 3 < 1073741824; decide), fun kd H25 hkd B25 k25 => ?_⟩
  obtain ⟨kk, rfl, hk3⟩ : ∃ kk : Str, kd = .str kk ∧ (kk = "plain" ∨ kk = "odd" ∨ kk = "keep") := by
    simp only [List.mem_cons, List.not_mem_nil, or_false] at hkd
    rcases hkd with rfl | rfl | rfl
    · exact ⟨_, rfl, .inl rfl⟩
    · exact ⟨_, rfl, .inr (.inl rfl)⟩
    · exact ⟨_, rfl, .inr (.inr rfl)⟩
  have k2 := (KpN.refl b H23).same s24 |>.kp k25
  have t25 := Tabs_kp (B23.same s24) k25 (t23.ext s24)
  have hM25 := k2.lst hM23 nM
  have pc25 := pc23.kpN B23 k2
  clear s24 fA1 hA1 hkd k2 k25 t23 hM23 pc23 B23
  -- a net
  refine ⟨by simp, fun v G0 s26 hv => ?_⟩
  obtain ⟨A1, _, rfl, fA1, hA1, ⟨_, _, rfl, ⟨A2, _, rfl, fA2, hA2, ⟨_, _, rfl, rfl, ⟨_, _, rfl, rfl, rfl⟩⟩⟩, ⟨_, _, rfl, ⟨A3, _, rfl, fA3, hA3, ⟨_, _, rfl, rfl, ⟨_, _, rfl, rfl, ⟨_, _, rfl, rfl, ⟨_, _, rfl, ⟨A4, _, rfl, fA4, hA4, ⟨_, _, rfl, rfl, rfl⟩⟩, rfl⟩⟩⟩⟩⟩, ⟨_, _, rfl, ⟨A5, _, rfl, fA5, hA5, ⟨_, _, rfl, rfl, ⟨_, _, rfl, rfl, ⟨_, _, rfl, rfl, ⟨_, _, rfl, rfl, rfl⟩⟩⟩⟩⟩, rfl⟩⟩⟩⟩ := hv
  have nA1 := B25.fresh fA1
  have B0 := B25.same s26
  have T0 := t25.ext s26
  have hM0 := s26 _ _ hM25
  have pc0 := pc25.same s26
  have pA0 : All2 (PtAt G0) [.ref A2, .ref A3, .ref A5] (someP za zb zc zf zq kk) := all2_cons ⟨A2, rfl, hA2⟩ (all2_cons ⟨A3, A4, rfl, hA3, hA4⟩ (all2_cons ⟨A5, rfl, hA5⟩ .nil))
  clear fA1 fA2 fA3 fA4 fA5 s26 hA2 hA3 hA4 hA5 B25 t25 hM25 pc25
  refine ⟨fun σ' H' => (∃ w v20 v21 v22, σ' = [some (.ref a), some (.ref b), some (.int (0 + (i : Int))), some (.ref M), some (.str za), some (.str zb), some (.str zc), some (.str zf), some (.str zp), some (.str zq), some (.ref y1), some (.ref y2), some (.ref d), some (.int dl), some (.ref rl), some (.ref fo), some (.ref du), some (.str kk), some (.ref A1), some (.ref w), v20, v21, v22] ∧ ((kk = "plain" ∧ ∃ x, H' w = some (.tup [.str "", x])) ∨ (kk ≠ "plain" ∧ ToldE H' w "UnlikeKinds" [.str zf]))) ∧ KpN b G0 H' ∧ Bag H' b c ∧ LamX.Tabs T H', ?_, ?_⟩
  · refine ⟨T0, fun J eN TJ => ?_⟩
    have kJ := (KpN.refl b G0).ext eN
    have BJ := Bag_ext B0 eN
    refine ⟨_, rfl, _, rfl, (by show 1 ≤ sizeLine; decide), fun o1 ho1 => ?_⟩
    have ro := same_upd ho1 (.lst [V.str zc])
    have ho5 : upd J o1 (.lst [V.str zc]) o1 = some (.lst [V.str zc]) := upd_same
    generalize upd J o1 (.lst [V.str zc]) = J5 at ro ho5 ⊢
    refine ⟨_, rfl, rfl, rfl, ?_⟩
    intro y dx hy hdx ndx
    have r4 := mk_same (C := C) hy hdx
    have hy6 : upd (upd J5 dx (.own y)) y (.ins C dx []) y = some (.ins C dx []) := upd_same
    generalize upd (upd J5 dx (.own y)) y (.ins C dx []) = J6 at r4 hy6 ⊢
    have k6 := kJ.same (ro.trans r4)
    have aA : All2 (PtAt J6) [.ref A2, .ref A3, .ref A5] (someP za zb zc zf zq kk) := pA0.mono fun _ _ z => z.tups (k6.tups B0)
    have osk : OsOk [zc] := ⟨fun z hz => by rw [List.mem_singleton.mp hz]; exact nc, by show 1 ≤ 1; decide, by show 1 ≤ 4; decide⟩
    have pc6 := (pc0.kpN B0 k6).at_
    show spNetP K C cs cP cO cU cI [.ref y, .ref A1, .ref o1, .ref d] _ _ _
    by_cases hkp : kk = "plain"
    · subst hkp
      refine made_good (os := [zc]) hy6 (.inl (k6.lst hA1 nA1)) aA (.inl (r4 _ _ ho5)) (.inr ⟨d, rfl, pc6⟩) Lb.ok (by decide) (some_ok Lb na nb nc nf nq dab dac dbc) fun G kG pa => ⟨rfl, ?_⟩
      have sG : Same J G := mk_kx ro hy r4 kG
      have okp := pa.ok
      obtain ⟨dx', p, o, d', m, us, vs, h1, h2, h3, h4, h5⟩ := pa.netU Lb.ok (by decide)
      refine ⟨y, dx', _, rfl, h1, rfl, y, dx', p, o, d', m, vs, _, rfl, h1, h4, h5, Nat.le_trans okp.box (by decide), fun l H2 s2 hl hl2 => ?_⟩
      refine ⟨(by show 2 ≤ sizeLine; decide), fun w hw => ?_⟩
      have s3 := (sG.trans s2).trans (same_upd hw (.tup [.str "", .ref l]))
      exact ⟨⟨w, _, _, _, rfl, .inl ⟨rfl, _, upd_same⟩⟩, kJ.same s3, BJ.same s3, TJ.ext s3⟩
    · refine made_bad (os := [zc]) hy6 (.inl (k6.lst hA1 nA1)) aA (parts_some hk3 na nb nc nf nq) (by show 3 ≤ 24; decide) (.inl (r4 _ _ ho5)) osk (.inr ⟨d, rfl, pc6⟩) Lb.ok (by decide) (some_bad Lb (hk3.resolve_left hkp) dab dac dbc) (told_xk eK rfl (.cUnlikeKinds rfl) (fun {G} k => mk_kx ro hy r4 k) fun w G told s => ?_)
      exact ⟨⟨w, _, _, _, rfl, .inr ⟨hkp, told⟩⟩, kJ.same s, BJ.same s, TJ.ext s⟩
  rintro σ H30 ⟨⟨w, v20, v21, v22, rfl, hw⟩, k30, B30, t30⟩
  have hM30 := k30.lst hM0 nM
  have pc30 := pc0.kpN B0 k30
  clear pA0 hA1 nA1 B0 T0 hM0 pc0 k30
  -- what it says
  refine ⟨fun σ' H' => σ' = [some (.ref a), some (.ref b), some (.int (0 + (i : Int))), some (.ref M), some (.str za), some (.str zb), some (.str zc), some (.str zf), some (.str zp), some (.str zq), some (.ref y1), some (.ref y2), some (.ref d), some (.int dl), some (.ref rl), some (.ref fo), some (.ref du), some (.str kk), some (.ref A1), some (.ref w), v20, v21, v22] ∧ Same H30 H', ?_, ?_⟩
  · rcases hw with ⟨hkp, x, hw⟩ | ⟨hkp, told⟩
    · refine ⟨_, rfl, w, _, 0, _, rfl, rfl, SqT.of hw, atI_nat (j := 0) rfl, ?_⟩
      refine ⟨_, rfl, rfl, _, rfl, ?_⟩
      rw [show decide (V.str kk = V.str "plain") = true from decide_eq_true (by rw [hkp])]
      refine iteT ⟨_, _, rfl, Eqv.leaf (show Leaf (V.str "") from trivial) _, fun H31 s31 => ⟨_, rfl, iteF ?_⟩⟩
      refine ⟨_, rfl, w, _, 0, _, rfl, rfl, SqT.of (s31 _ _ hw), atI_nat (j := 0) rfl, ?_⟩
      exact ⟨rfl, _, rfl, iteF (iteF ⟨rfl, s31⟩)⟩
    · obtain ⟨t1, hw, ht1⟩ := told
      refine ⟨_, rfl, w, _, 0, _, rfl, rfl, SqT.of hw, atI_nat (j := 0) rfl, ?_⟩
      refine ⟨_, rfl, rfl, _, rfl, ?_⟩
      rw [show decide (V.str kk = V.str "plain") = false from decide_eq_false (fun e => hkp (V.str.inj e))]
      refine iteF ⟨_, _, rfl, Eqv.leaf (show Leaf (V.str "UnlikeKinds") from trivial) _, fun H31 s31 => ⟨_, rfl, iteF ?_⟩⟩
      refine ⟨_, rfl, w, _, 0, _, rfl, rfl, SqT.of (s31 _ _ hw), atI_nat (j := 0) rfl, ?_⟩
      refine ⟨rfl, _, rfl, iteT ?_⟩
      refine ⟨_, rfl, w, _, 1, _, rfl, rfl, SqT.of (s31 _ _ hw), atI_nat (j := 1) rfl, by simp, fun v H32 s32 hv => ?_⟩
      obtain ⟨A1, _, rfl, fA1, hA1, ⟨_, _, rfl, rfl, rfl⟩⟩ := hv
      have s3 := s31.trans s32
      refine ⟨_, _, rfl, .inr ⟨t1, A1, [V.str zf], [V.str zf], rfl, rfl, rfl, by show 1 ≤ 100000; decide, .inr ⟨s3 _ _ ht1, hA1⟩, (all2_cons (Eqv.leaf (show Leaf (V.str zf) from trivial) _) .nil).2⟩, fun H33 s33 => ⟨_, rfl, iteF ⟨rfl, s3.trans s33⟩⟩⟩
  rintro σ H40 ⟨rfl, s40⟩
  have B40 := B30.same s40
  have t40 := t30.ext s40
  have hM40 := s40 _ _ hM30
  have pc40 := pc30.same s40
  clear hw s40 B30 t30 hM30 pc30
  -- the uses
  refine ⟨_, rfl, .ref b, rfl, by simp, fun v H41 s41 hv => ?_⟩
  obtain ⟨E1, _, rfl, fE1, hE1, ⟨_, _, rfl, rfl, ⟨_, _, rfl, rfl, rfl⟩⟩⟩ := hv
  refine ⟨b, c, .ref E1, _, rfl, B40.same s41, .inl ⟨E1, rfl, B40.fresh fE1, SqL.of hE1⟩, (by show 0 < 2; decide), (by show 2 < 1073741824; decide), fun px H42 hpx B42 k42 => ?_⟩
  obtain ⟨x, D, rfl, nx, hx, hD⟩ : ∃ (x : Str) (D : ND), px = .str x ∧ IsNm x ∧ lib x = some D ∧ (sourcesP D.ps).length = 1 := by
    simp only [List.mem_cons, List.not_mem_nil, or_false] at hpx
    rcases hpx with rfl | rfl
    · exact ⟨zp, D1, rfl, np, Lb.p, rfl⟩
    · exact ⟨zq, D2 zf, rfl, nq, Lb.q, rfl⟩
  have k2 : KpN b H40 H42 := (KpN.refl b H40).same s41 |>.kp k42
  have t42 := Tabs_kp (B40.same s41) k42 (t40.ext s41)
  clear hpx fE1 hE1 k42 s41 t40
  refine ⟨by simp, fun v H43 s43 hv => ?_⟩
  obtain ⟨E2, _, rfl, fE2, hE2, ⟨_, _, rfl, rfl, rfl⟩⟩ := hv
  refine ⟨.ref b, rfl, by simp, fun v H44 s44 hv => ?_⟩
  obtain ⟨E3, _, rfl, fE3, hE3, ⟨_, _, rfl, rfl, ⟨_, _, rfl, rfl, ⟨_, _, rfl, rfl, ⟨_, _, rfl, rfl, rfl⟩⟩⟩⟩⟩ := hv
  have B44 := (B42.same s43).same s44
  refine ⟨b, c, .ref E3, _, rfl, B44, .inl ⟨E3, rfl, (B42.same s43).fresh fE3, SqL.of hE3⟩, (by show 0 < 4; decide), (by show 4 < 1073741824; decide), fun kv H45 hkv B45 k45 => ?_⟩
  obtain ⟨k1, rfl, k14, k11⟩ : ∃ k1 : Nat, kv = .int (k1 : Int) ∧ k1 ≤ 4 ∧ k1 ≠ 1 := by
    simp only [List.mem_cons, List.not_mem_nil, or_false] at hkv
    rcases hkv with rfl | rfl | rfl | rfl
    · exact ⟨0, rfl, by decide, by decide⟩
    · exact ⟨2, rfl, by decide, by decide⟩
    · exact ⟨3, rfl, by decide, by decide⟩
    · exact ⟨4, rfl, by decide, by decide⟩
  have hE25 := k45.tups B44 _ _ (s44 _ _ hE2)
  refine ⟨E2, (k1 : Int), [V.str za], rfl, rfl, hE25, by simp, by omega, by omega, by show 1 ≤ 1000; decide, fun tp H46 s46 htp => ?_⟩
  rw [show (List.replicate (k1 : Int).toNat [V.str za]).flatten = (List.replicate k1 za).map V.str by simp] at htp
  refine ⟨(by show 4 ≤ sizeLine; decide), fun u1 hu1 => ?_⟩
  have q1 := same_upd hu1 (.tup [.str "use", .str zb, .str x, .ref tp])
  have e1 : upd H46 u1 (.tup [.str "use", .str zb, .str x, .ref tp]) u1 = some (.tup [.str "use", .str zb, .str x, .ref tp]) := upd_same
  generalize upd H46 u1 (.tup [.str "use", .str zb, .str x, .ref tp]) = H47 at q1 e1 ⊢
  have pu1 : PtAt H47 (.ref u1) (.use zb x (List.replicate k1 za)) := ⟨u1, tp, rfl, e1, q1 _ _ htp⟩
  have k3 : KpN b H40 H47 := ((((k2.same s43).same s44).kp k45).same s46).same q1
  have B47 := (B45.same s46).same q1
  have t47 := ((Tabs_kp B44 k45 ((t42.ext s43).ext s44)).ext s46).ext q1
  clear k2 t42 s43 s44 B44 k45 hE25 hkv fE2 hE2 fE3 hE3 s46 htp q1 e1 B45 B42 hu1
  refine ⟨_, rfl, _, rfl, M, _, 6, .str z6, rfl, rfl, SqL.of (k3.lst hM40 nM), atI_nat (j := 6) rfl, by simp, fun v H48 s48 hv => ?_⟩
  obtain ⟨E2, _, rfl, fE2, hE2, ⟨_, _, rfl, rfl, rfl⟩⟩ := hv
  have B48 := B47.same s48
  refine ⟨.ref b, rfl, b, c, 3, rfl, B48, by decide, by decide, fun kk2 H49 kk0 kk3 B49 k49 => ?_⟩
  obtain ⟨k2, rfl, k22⟩ : ∃ k2 : Nat, kk2 = (k2 : Int) ∧ k2 ≤ 2 := ⟨kk2.toNat, by omega, by omega⟩
  refine ⟨E2, (k2 : Int), [V.str za], rfl, rfl, k49.tups B48 _ _ hE2, by simp, by omega, by omega, by show 1 ≤ 1000; decide, fun tp2 H50 s50 htp => ?_⟩
  rw [show (List.replicate (k2 : Int).toNat [V.str za]).flatten = (List.replicate k2 za).map V.str by simp] at htp
  refine ⟨(by show 4 ≤ sizeLine; decide), fun u2 hu2 => ⟨(by show 2 ≤ sizeLine; decide), fun ul hul => ?_⟩⟩
  have q1 := same_upd hu2 (.tup [.str "use", .str zc, .str z6, .ref tp2])
  have e1 : upd H50 u2 (.tup [.str "use", .str zc, .str z6, .ref tp2]) u2 = some (.tup [.str "use", .str zc, .str z6, .ref tp2]) := upd_same
  generalize upd H50 u2 (.tup [.str "use", .str zc, .str z6, .ref tp2]) = H51 at q1 e1 hul ⊢
  have q2 := same_upd hul (.lst [.ref u1, .ref u2])
  have hul0 : upd H51 ul (.lst [.ref u1, .ref u2]) ul = some (.lst [.ref u1, .ref u2]) := upd_same
  have nul : ul ≠ b := ((B49.same s50).same q1).fresh hul
  generalize upd H51 ul (.lst [.ref u1, .ref u2]) = H52 at q2 hul0 ⊢
  have pu2 : PtAt H52 (.ref u2) (.use zc z6 (List.replicate k2 za)) := ⟨u2, tp2, rfl, q2 _ _ e1, q2 _ _ (q1 _ _ htp)⟩
  have k4 : KpN b H47 H52 := (((((KpN.refl b H47).same s48).kp k49).same s50).same q1).same q2
  have pu1 : PtAt H52 (.ref u1) (.use zb x (List.replicate k1 za)) := pu1.tups (k4.tups B47)
  have B52 := ((B49.same s50).same q1).same q2
  have t52 := (((Tabs_kp B48 k49 (t47.ext s48)).ext s50).ext q1).ext q2
  have k5 : KpN b H40 H52 := ((((k3.same s48).kp k49).same s50).same q1).same q2
  have hM52 := k5.lst hM40 nM
  have pc52 := pc40.kpN B40 k5
  clear k3 k4 k5 s48 B48 k49 s50 htp q1 e1 q2 hu2 hul B49 t47 B47 hM40 pc40 B40 fE2 hE2
  -- a place
  refine ⟨.ref b, rfl, b, c, 2, rfl, B52, by decide, by decide, fun at_ H53 a0 a2 B53 k53 => ?_⟩
  have pu1 := pu1.tups (k53.tups B52)
  have pu2 := pu2.tups (k53.tups B52)
  have hul53 := k53 _ _ hul0 nul
  have t53 := Tabs_kp B52 k53 t52
  have hM53 := k53 _ _ hM52 nM
  have pc53 := pc52.kpN B52 (Kp.n k53)
  clear hul0 t52 hM52 pc52 B52 k53
  -- the late net
  refine ⟨fun σ' H' => (∃ lt us, σ' = [some (.ref a), some (.ref b), some (.int (0 + (i : Int))), some (.ref M), some (.str za), some (.str zb), some (.str zc), some (.str zf), some (.str zp), some (.str zq), some (.ref y1), some (.ref y2), some (.ref d), some (.int dl), some (.ref rl), some (.ref fo), some (.ref du), some (.str kk), some (.ref A1), some (.ref w), some (.ref ul), some (.int at_), some (.ref lt)] ∧ lt ≠ b ∧ H' lt = some (.lst us) ∧ All2 (PtAt H') us (if at_ = 0 then [.flat "source" za [], .use zb x (List.replicate k1 za), .use zc z6 (List.replicate k2 za)] else [.flat "source" za [], .use zc z6 (List.replicate k2 za), .use zb x (List.replicate k1 za)])) ∧ Same H53 H', ?_, ?_⟩
  · refine ⟨by simp, fun v H54 s54 hv => ?_⟩
    obtain ⟨E1, _, rfl, fE1, hE1, ⟨_, _, rfl, ⟨E2, _, rfl, fE2, hE2, ⟨_, _, rfl, rfl, ⟨_, _, rfl, rfl, rfl⟩⟩⟩, rfl⟩⟩ := hv
    have hul54 := s54 _ _ hul53
    refine ⟨_, rfl, rfl, _, rfl, ?_⟩
    by_cases hat : at_ = 0
    · rw [show decide (V.int at_ = V.int 0) = true from decide_eq_true (by rw [hat])]
      refine iteT ⟨_, rfl, ul, _, 0, _, rfl, rfl, SqL.of hul54, atI_nat (j := 0) rfl, _, rfl, ul, _, 1, _, rfl, rfl, SqL.of hul54, atI_nat (j := 1) rfl, (by show 2 ≤ sizeLine; decide), fun g1 hg1 => ?_⟩
      have q1 := same_upd hg1 (.lst [.ref u1, .ref u2])
      have e1 : upd H54 g1 (.lst [.ref u1, .ref u2]) g1 = some (.lst [.ref u1, .ref u2]) := upd_same
      generalize upd H54 g1 (.lst [.ref u1, .ref u2]) = H55 at q1 e1 ⊢
      refine ⟨E1, g1, [.ref E2], [.ref u1, .ref u2], rfl, rfl, q1 _ _ hE1, e1, (by show 1 + 2 ≤ sizeLine; decide), fun lt hlt => ?_⟩
      have q2 := same_upd hlt (.lst [.ref E2, .ref u1, .ref u2])
      have s3 := (s54.trans q1).trans q2
      refine ⟨⟨lt, _, rfl, ((B53.same s54).same q1).fresh hlt, upd_same, ?_⟩, s3⟩
      rw [if_pos hat]
      exact all2_cons ⟨E2, rfl, q2 _ _ (q1 _ _ hE2)⟩ (all2_cons (pu1.tups (Same.tups s3)) (all2_cons (pu2.tups (Same.tups s3)) .nil))
    · rw [show decide (V.int at_ = V.int 0) = false from decide_eq_false (fun e => hat (V.int.inj e))]
      refine iteF ⟨_, rfl, ul, _, 1, _, rfl, rfl, SqL.of hul54, atI_nat (j := 1) rfl, _, rfl, ul, _, 0, _, rfl, rfl, SqL.of hul54, atI_nat (j := 0) rfl, (by show 2 ≤ sizeLine; decide), fun g1 hg1 => ?_⟩
      have q1 := same_upd hg1 (.lst [.ref u2, .ref u1])
      have e1 : upd H54 g1 (.lst [.ref u2, .ref u1]) g1 = some (.lst [.ref u2, .ref u1]) := upd_same
      generalize upd H54 g1 (.lst [.ref u2, .ref u1]) = H55 at q1 e1 ⊢
      refine ⟨E1, g1, [.ref E2], [.ref u2, .ref u1], rfl, rfl, q1 _ _ hE1, e1, (by show 1 + 2 ≤ sizeLine; decide), fun lt hlt => ?_⟩
      have q2 := same_upd hlt (.lst [.ref E2, .ref u2, .ref u1])
      have s3 := (s54.trans q1).trans q2
      refine ⟨⟨lt, _, rfl, ((B53.same s54).same q1).fresh hlt, upd_same, ?_⟩, s3⟩
      rw [if_neg hat]
      exact all2_cons ⟨E2, rfl, q2 _ _ (q1 _ _ hE2)⟩ (all2_cons (pu2.tups (Same.tups s3)) (all2_cons (pu1.tups (Same.tups s3)) .nil))
  rintro σ G0 ⟨⟨lt, us, rfl, nlt, hlt, hus⟩, s53⟩
  have B0 := B53.same s53
  have pc0 := pc53.same s53
  have hM0 := s53 _ _ hM53
  refine ⟨t53.ext s53, fun J eN TJ => ?_⟩
  have kJ := (KpN.refl b G0).ext eN
  have BJ := Bag_ext B0 eN
  refine ⟨_, rfl, _, rfl, (by show 1 ≤ sizeLine; decide), fun o1 ho1 => ?_⟩
  have ro := same_upd ho1 (.lst [V.str za])
  have ho5 : upd J o1 (.lst [V.str za]) o1 = some (.lst [V.str za]) := upd_same
  generalize upd J o1 (.lst [V.str za]) = J5 at ro ho5 ⊢
  refine ⟨_, rfl, rfl, rfl, ?_⟩
  intro y dx hy hdx ndx
  have r4 := mk_same (C := C) hy hdx
  have hy6 : upd (upd J5 dx (.own y)) y (.ins C dx []) y = some (.ins C dx []) := upd_same
  generalize upd (upd J5 dx (.own y)) y (.ins C dx []) = J6 at r4 hy6 ⊢
  have k6 := kJ.same (ro.trans r4)
  have osk : OsOk [za] := ⟨fun z hz => by rw [List.mem_singleton.mp hz]; exact na, by show 1 ≤ 1; decide, by show 1 ≤ 4; decide⟩
  have pc6 := (pc0.kpN B0 k6).at_
  have hus := hus.mono fun _ _ z => z.tups (k6.tups B0)
  have lpar := late_parts (a := za) (b := zb) (c := zc) (p := x) (w := z6) (k1 := k1) (k2 := k2) na nb nc nx n6 k14 (by omega)
  show spNetP K C cs cP cO cU cI [.ref y, .ref lt, .ref o1, .ref d] _ _ _
  by_cases hat : at_ = 0
  · rw [if_pos hat] at hus
    refine made_bad (os := [za]) hy6 (.inl (k6.lst hlt nlt)) hus lpar (by show 3 ≤ 24; decide) (.inl (r4 _ _ ho5)) osk (.inr ⟨d, rfl, pc6⟩) Lb.ok (by decide) (late_use hx hD k11 dab dac dbc) (told_xk eI rfl (.cInvalidUse rfl) (fun {G} k => mk_kx ro hy r4 k) fun tf G told s => ?_)
    refine ⟨_, rfl, rfl, _, rfl, ?_⟩
    rw [show decide (V.int at_ = V.int 0) = true from decide_eq_true (by rw [hat])]
    refine iteT ⟨by simp, fun v G2 s2 hv => ?_⟩
    obtain ⟨E1, _, rfl, fE1, hE1, ⟨_, _, rfl, rfl, ⟨_, _, rfl, ⟨E2, _, rfl, fE2, hE2, ⟨_, _, rfl, rfl, rfl⟩⟩, rfl⟩⟩⟩ := hv
    have s3 := s.trans s2
    refine ⟨_, _, rfl, (told.same s2).eqv (t1 := E2) hE1 hE2 (by show 1 ≤ 2; decide) (fun z hz => by rw [List.mem_singleton.mp hz]; trivial) 3, fun G3 s3' => ⟨_, rfl, iteF ⟨⟨_, _, _, _, _, _, _, _, _, _, _, _, _, _, _, _, _, _, _, _, _, rfl⟩, (BJ.same s3).same s3', (TJ.ext s3).ext s3'⟩⟩⟩
  · rw [if_neg hat] at hus
    refine made_bad (os := [za]) hy6 (.inl (k6.lst hlt nlt)) hus (fun z hz => lpar z (by rcases mem3 hz with rfl | rfl | rfl <;> simp)) (by show 3 ≤ 24; decide) (.inl (r4 _ _ ho5)) osk (.inr ⟨d, rfl, pc6⟩) Lb.ok (by decide) (late_piece lib6 dab dac dbc) (told_xk eU rfl (.cUnknownPiece rfl) (fun {G} k => mk_kx ro hy r4 k) fun tf G told s => ?_)
    refine ⟨_, rfl, rfl, _, rfl, ?_⟩
    rw [show decide (V.int at_ = V.int 0) = false from decide_eq_false (fun e => hat (V.int.inj e))]
    have hMG := (kJ.same s).lst hM0 nM
    refine iteF ⟨_, rfl, M, _, 6, .str z6, rfl, rfl, SqL.of hMG, atI_nat (j := 6) rfl, (by show 1 ≤ sizeLine; decide), fun E2 fE2 => ⟨(by show 2 ≤ sizeLine; decide), fun E1 fE1 => ?_⟩⟩
    have q1 := same_upd fE2 (.tup [.str z6])
    have hE2 : upd G E2 (.tup [.str z6]) E2 = some (.tup [.str z6]) := upd_same
    generalize upd G E2 (.tup [.str z6]) = G1 at q1 hE2 fE1 ⊢
    have q2 := same_upd fE1 (.tup [.str "UnknownPiece", .ref E2])
    have hE1 : upd G1 E1 (.tup [.str "UnknownPiece", .ref E2]) E1 = some (.tup [.str "UnknownPiece", .ref E2]) := upd_same
    generalize upd G1 E1 (.tup [.str "UnknownPiece", .ref E2]) = G2 at q2 hE1 ⊢
    have s2 := q1.trans q2
    have s3 := s.trans s2
    refine ⟨_, _, rfl, (told.same s2).eqv (t1 := E2) hE1 (q2 _ _ hE2) (by show 1 ≤ 2; decide) (fun z hz => by rw [List.mem_singleton.mp hz]; trivial) 3, fun G3 s3' => ⟨_, rfl, iteF ⟨⟨_, _, _, _, _, _, _, _, _, _, _, _, _, _, _, _, _, _, _, _, _, rfl⟩, (BJ.same s3).same s3', (TJ.ext s3).ext s3'⟩⟩⟩
end
end Un
namespace Un
open PySem L2 TL
section
variable {P : Program} {w : World} {K : PySem.W.Frag} {mg : Str → Option Value} {base : Heap}
/-! ### the classes as the top has made them -/
section
variable {C D N : Addr} {nm q : Str} {bs bm sub : List Value} {sn : List Str} {ab : Bool} {col : Option Bool} {dd : Option Addr} {k0 k1 k2 k3 k5 : Option Value} {nid : String}
theorem cl_cls (l : K.lookup C = some (excClassObj nm q C N bs bm true sn sub ab col dd k0 k1 k2 k3 k5 nid)) : PySem.W.clsIn K C = some { name := nm, bases := bs, mro := .ref C :: bm, ns := N, qualname := q, hasDict := true, slotNames := sn, subclasses := sub, abstract := ab, collection := col, hasDel := false } := by
  unfold PySem.W.clsIn; rw [l] <;> rfl
theorem cl_some (l : K.lookup C = some (excClassObj nm q C N bs bm true sn sub ab col dd k0 k1 k2 k3 k5 nid)) : (PySem.W.clsIn K C).isSome = true := by rw [cl_cls l]; rfl
theorem cl_dict (l : K.lookup C = some (excClassObj nm q C N bs bm true sn sub ab col dd k0 k1 k2 k3 k5 nid)) : PySem.W.hasDictIn K C = true := by unfold PySem.W.hasDictIn; rw [cl_cls l]; rfl
theorem cl_type (l : K.lookup C = some (excClassObj nm q C N bs bm true sn sub ab col dd k0 k1 k2 k3 k5 nid)) : PySem.W.typeIn K (.ref C) = some (.type "type") := by
  show (K.lookup C).map (·.cls) = _
  rw [l]; rfl
theorem cl_mro (l : K.lookup C = some (excClassObj nm q C N bs bm true sn sub ab col dd k0 k1 k2 k3 k5 nid)) (b : Value) : PySem.W.mroIn K C b = some ((Value.ref C :: bm).contains b) := by
  unfold PySem.W.mroIn; rw [cl_cls l]; rfl
end
/-- what a class of the errors is, as the top has written it -/
def CF (K : PySem.W.Frag) (C : Addr) (bm : List Value) (nid : String) (attrs : List Str) : Prop :=
  (∃ nm q N bs sn sub ab col dd k0 k1 k2 k3 k5, K.lookup C = some (excClassObj nm q C N bs bm true sn sub ab col dd k0 k1 k2 k3 k5 nid)) ∧ PySem.W.findIn K (.ref C) "__getattribute__" = some (some (.builtin "BaseException.__getattribute__")) ∧ PySem.W.findIn K (.ref C) "__getattr__" = some none ∧
  PySem.W.findIn K (.ref C) "__class__" = some (some (.builtin "object.__class__")) ∧ PySem.W.findIn K (.ref C) "code" = some none ∧ (∀ f ∈ attrs, PySem.W.findIn K (.ref C) f = some none)
def CX (K : PySem.W.Frag) (C f : Addr) (x qn : Str) (st : Stmt) (bm : List Value) (nid : String) (attrs : List Str) : Prop :=
  PySem.W.nsIn K mainGlobals x = some (some (.ref C)) ∧ CF K C bm nid attrs ∧ PySem.W.findIn K (.ref C) "__setattr__" = some (some (.builtin "object.__setattr__")) ∧ PySem.W.keepIn K (.ref C) = true ∧ PySem.W.findIn K (.ref C) "__init__" = some (some (.ref f)) ∧
  PySem.W.typeIn K (.ref f) = some (.type "function") ∧ ∃ fd, Fun K "__init__" qn st f fd
section
variable {C f N : Addr} {x qn nm q : Str} {st : Stmt} {bs bm sub : List Value} {sn : List Str} {ab : Bool} {col : Option Bool} {dd od an : Option Addr} {k0 k1 k2 k3 k5 : Option Value} {nid : String} {g h : Str} {oc kV doc pm cd ct : Value} {osl : Array (Option Value)}
theorem cx0 (a1 : PySem.W.nsIn K mainGlobals x = some (some (.ref C))) (a2 : K.lookup C = some (excClassObj nm q C N bs bm true sn sub ab col dd k0 k1 k2 k3 k5 nid)) (a3 : PySem.W.findIn K (.ref C) "__getattribute__" = some (some (.builtin "BaseException.__getattribute__"))) (a4 : PySem.W.findIn K (.ref C) "__getattr__" = some none)
    (a5 : PySem.W.findIn K (.ref C) "__class__" = some (some (.builtin "object.__class__"))) (a6 : PySem.W.findIn K (.ref C) "code" = some none) (a7 : PySem.W.findIn K (.ref C) "__setattr__" = some (some (.builtin "object.__setattr__"))) (a8 : PySem.W.keepIn K (.ref C) = true) (a9 : PySem.W.findIn K (.ref C) "__init__" = some (some (.ref f)))
    (b1 : PySem.W.typeIn K (.ref f) = some (.type "function")) (b2 : K.lookup f = some ⟨oc, od, .func (PySem.W.fnOf "__init__" qn (defArgs st) (defBody st) (defScope st) .none kV doc pm an cd ct), osl⟩) (b3 : PySem.W.codeIn K cd qn = true) (b4 : PySem.W.keepIn K (.ref f) = true) : CX K C f x qn st bm nid [] :=
  ⟨a1, ⟨⟨_, _, _, _, _, _, _, _, _, _, _, _, _, _, a2⟩, a3, a4, a5, a6, fun f hf => nomatch hf⟩, a7, a8, a9, b1, _, fun_mk (st := st) b2 b3 b4⟩
theorem cx1 (c : CX K C f x qn st bm nid []) (d1 : PySem.W.findIn K (.ref C) g = some none) : CX K C f x qn st bm nid [g] := by
  obtain ⟨a1, ⟨a2, a3, a4, a5, a6, _⟩, r⟩ := c
  exact ⟨a1, ⟨a2, a3, a4, a5, a6, fun f hf => by rw [List.mem_singleton.mp hf]; exact d1⟩, r⟩
theorem cx2 (c : CX K C f x qn st bm nid []) (d1 : PySem.W.findIn K (.ref C) g = some none) (d2 : PySem.W.findIn K (.ref C) h = some none) : CX K C f x qn st bm nid [g, h] := by
  obtain ⟨a1, ⟨a2, a3, a4, a5, a6, _⟩, r⟩ := c
  exact ⟨a1, ⟨a2, a3, a4, a5, a6, fun f hf => by
    rcases List.mem_cons.mp hf with e | hf
    · rw [e]; exact d1
    · rw [List.mem_singleton.mp hf]; exact d2⟩, r⟩
end
theorem CF.oex {C : Addr} {bm tail : List Value} {B nid iid : String} {attrs : List Str} (c : CF K C bm nid attrs) (FB : ExcBaseFacts B nid iid tail) (TO : XV.TailOk tail) (hb : XV.refsT tail bm = true) (hbe : bm.contains (.type "BaseException") = true)
    (sa : PySem.W.findIn K (.ref C) "__setattr__" = some (some (.builtin "object.__setattr__"))) (kC : PySem.W.keepIn K (.ref C) = true) : OexG K C := by
  obtain ⟨⟨nm, q, N, bs, sn, sub, ab, col, dd, k0, k1, k2, k3, k5, l⟩, _⟩ := c
  refine ⟨⟨B, nid, iid, tail, nm, q, N, bs, bm, sn, sub, ab, col, dd, k0, k1, k2, k3, k5, FB, TO, l, hb⟩, sa, ?_, cl_type l, kC⟩
  show PySem.W.mroIn K C _ = _
  rw [cl_mro l, List.contains_cons, hbe, Bool.or_true]
/-! ### what the top has written, the head -/
open XV
theorem all_mk {l : PySem.W.OpenLaw} {w : World} {K : PySem.W.Frag} {h : Heap} {mg : Str → Option Value} {fa : Addr} (X : K.In h) (G : h.Ns mainGlobals mg) (hfa : mg "law" = some (.ref fa))
    {f1 : Addr}
    {od1 an1 : Option Addr} {sl1 : Array (Option Value)} {oc1 kV1 dc1 pm1 cd1 ct1 : Value}
    {f2 : Addr}
    {od2 an2 : Option Addr} {sl2 : Array (Option Value)} {oc2 kV2 dc2 pm2 cd2 ct2 : Value}
    {f3 : Addr}
    {od3 an3 : Option Addr} {sl3 : Array (Option Value)} {oc3 kV3 dc3 pm3 cd3 ct3 : Value}
    {f4 : Addr}
    {od4 an4 : Option Addr} {sl4 : Array (Option Value)} {oc4 kV4 dc4 pm4 cd4 ct4 : Value}
    {f5 : Addr}
    {od5 an5 : Option Addr} {sl5 : Array (Option Value)} {oc5 kV5 dc5 pm5 cd5 ct5 : Value}
    {f6 : Addr}
    {od6 an6 : Option Addr} {sl6 : Array (Option Value)} {oc6 kV6 dc6 pm6 cd6 ct6 : Value}
    {f7 : Addr}
    {od7 an7 : Option Addr} {sl7 : Array (Option Value)} {oc7 kV7 dc7 pm7 cd7 ct7 : Value}
    {f8 : Addr}
    {od8 an8 : Option Addr} {sl8 : Array (Option Value)} {oc8 kV8 dc8 pm8 cd8 ct8 : Value}
    {f9 : Addr}
    {od9 an9 : Option Addr} {sl9 : Array (Option Value)} {oc9 kV9 dc9 pm9 cd9 ct9 : Value}
    {f10 : Addr}
    {od10 an10 : Option Addr} {sl10 : Array (Option Value)} {oc10 kV10 dc10 pm10 cd10 ct10 : Value}
    {f11 : Addr}
    {od11 an11 : Option Addr} {sl11 : Array (Option Value)} {oc11 kV11 dc11 pm11 cd11 ct11 : Value}
    {f12 : Addr}
    {od12 an12 : Option Addr} {sl12 : Array (Option Value)} {oc12 kV12 dc12 pm12 cd12 ct12 : Value}
    {f13 : Addr}
    {od13 an13 : Option Addr} {sl13 : Array (Option Value)} {oc13 kV13 dc13 pm13 cd13 ct13 : Value}
    {f14 : Addr}
    {od14 an14 : Option Addr} {sl14 : Array (Option Value)} {oc14 kV14 dc14 pm14 cd14 ct14 : Value}
    {f15 : Addr}
    {od15 an15 : Option Addr} {sl15 : Array (Option Value)} {oc15 kV15 dc15 pm15 cd15 ct15 : Value}
    {f16 : Addr}
    {od16 an16 : Option Addr} {sl16 : Array (Option Value)} {oc16 kV16 dc16 pm16 cd16 ct16 : Value}
    {f17 : Addr}
    {od17 an17 : Option Addr} {sl17 : Array (Option Value)} {oc17 kV17 dc17 pm17 cd17 ct17 : Value}
    {f18 : Addr}
    {od18 an18 : Option Addr} {sl18 : Array (Option Value)} {oc18 kV18 dc18 pm18 cd18 ct18 : Value}
    {f19 : Addr}
    {od19 an19 : Option Addr} {sl19 : Array (Option Value)} {oc19 kV19 dc19 pm19 cd19 ct19 : Value}
    {f20 : Addr}
    {od20 an20 : Option Addr} {sl20 : Array (Option Value)} {oc20 kV20 dc20 pm20 cd20 ct20 : Value}
    {f21 : Addr}
    {od21 an21 : Option Addr} {sl21 : Array (Option Value)} {oc21 kV21 dc21 pm21 cd21 ct21 : Value}
    {f22 : Addr}
    {od22 an22 : Option Addr} {sl22 : Array (Option Value)} {oc22 kV22 dc22 pm22 cd22 ct22 : Value}
    {f23 : Addr}
    {od23 an23 : Option Addr} {sl23 : Array (Option Value)} {oc23 kV23 dc23 pm23 cd23 ct23 : Value}
    {f24 : Addr}
    {od24 an24 : Option Addr} {sl24 : Array (Option Value)} {oc24 kV24 dc24 pm24 cd24 ct24 : Value}
    {f25 : Addr}
    {od25 an25 : Option Addr} {sl25 : Array (Option Value)} {oc25 kV25 dc25 pm25 cd25 ct25 : Value}
    {f26 : Addr}
    {od26 an26 : Option Addr} {sl26 : Array (Option Value)} {oc26 kV26 dc26 pm26 cd26 ct26 : Value}
    {f27 : Addr}
    {od27 an27 : Option Addr} {sl27 : Array (Option Value)} {oc27 kV27 dc27 pm27 cd27 ct27 : Value}
    {f28 : Addr}
    {od28 an28 : Option Addr} {sl28 : Array (Option Value)} {oc28 kV28 dc28 pm28 cd28 ct28 : Value}
    {f29 : Addr}
    {od29 an29 : Option Addr} {sl29 : Array (Option Value)} {oc29 kV29 dc29 pm29 cd29 ct29 : Value}
    {fl c0 P0 : Addr} {odl anl : Option Addr} {sll : Array (Option Value)} {ocl kVl dcl pml ctl : Value}
    {tk_LETTERS : Tok}
    {tk_LONGEST_NAME : Tok}
    {tk_MOST_FACTOR : Tok}
    {tk_MOST_DELAY : Tok}
    {tk_MOST_TERMS : Tok}
    {tk_MOST_ENDS : Tok}
    {tk_MOST_OUTS : Tok}
    {tk_MOST_SOURCES : Tok}
    {tk_MOST_WIRES : Tok}
    {dE : Addr} {esE : Array DictEntry} {nE : Nat} {tE0 tE1 tE2 tE3 : Tok}
    {CN : Addr} {cdtCN : ClassData}
    {tcMOST : Tok}
    {tcBOXES : Tok}
    {fNI DNI : Addr} {odNI anNI : Option Addr} {slNI : Array (Option Value)} {ocNI dcNI pmNI cdNI ctNI : Value}
    {fN0 : Addr} {odN0 anN0 : Option Addr} {slN0 : Array (Option Value)} {ocN0 kVN0 dcN0 pmN0 cdN0 ctN0 : Value}
    {fN1 : Addr} {odN1 anN1 : Option Addr} {slN1 : Array (Option Value)} {ocN1 kVN1 dcN1 pmN1 cdN1 ctN1 : Value}
    {fN2 : Addr} {odN2 anN2 : Option Addr} {slN2 : Array (Option Value)} {ocN2 kVN2 dcN2 pmN2 cdN2 ctN2 : Value}
    {fN3 : Addr} {odN3 anN3 : Option Addr} {slN3 : Array (Option Value)} {ocN3 kVN3 dcN3 pmN3 cdN3 ctN3 : Value}
    {fN4 : Addr} {odN4 anN4 : Option Addr} {slN4 : Array (Option Value)} {ocN4 kVN4 dcN4 pmN4 cdN4 ctN4 : Value}
    {fN5 : Addr} {odN5 anN5 : Option Addr} {slN5 : Array (Option Value)} {ocN5 kVN5 dcN5 pmN5 cdN5 ctN5 : Value}
    {fN6 : Addr} {odN6 anN6 : Option Addr} {slN6 : Array (Option Value)} {ocN6 kVN6 dcN6 pmN6 cdN6 ctN6 : Value}
    {U MM NL eD eU eT eK eR eP eO eV eI CD CU CT CK CR CP CO CV CI : Addr}
    (a1 : PySem.W.nsIn K mainGlobals "is_name" = some (some (.ref f1)))
    (l1 : K.lookup f1 = some ⟨oc1, od1, .func (PySem.W.fnOf "is_name" "is_name" (defArgs sIsName) (defBody sIsName) (defScope sIsName) .none kV1 dc1 pm1 an1 cd1 ct1), sl1⟩)
    (c1 : PySem.W.codeIn K cd1 "is_name" = true)
    (k1 : PySem.W.keepIn K (.ref f1) = true)
    (a2 : PySem.W.nsIn K mainGlobals "is_integer" = some (some (.ref f2)))
    (l2 : K.lookup f2 = some ⟨oc2, od2, .func (PySem.W.fnOf "is_integer" "is_integer" (defArgs sIsInteger) (defBody sIsInteger) (defScope sIsInteger) .none kV2 dc2 pm2 an2 cd2 ct2), sl2⟩)
    (c2 : PySem.W.codeIn K cd2 "is_integer" = true)
    (k2 : PySem.W.keepIn K (.ref f2) = true)
    (a3 : PySem.W.nsIn K mainGlobals "is_number" = some (some (.ref f3)))
    (l3 : K.lookup f3 = some ⟨oc3, od3, .func (PySem.W.fnOf "is_number" "is_number" (defArgs sIsNumber) (defBody sIsNumber) (defScope sIsNumber) .none kV3 dc3 pm3 an3 cd3 ct3), sl3⟩)
    (c3 : PySem.W.codeIn K cd3 "is_number" = true)
    (k3 : PySem.W.keepIn K (.ref f3) = true)
    (a4 : PySem.W.nsIn K mainGlobals "is_kind" = some (some (.ref f4)))
    (l4 : K.lookup f4 = some ⟨oc4, od4, .func (PySem.W.fnOf "is_kind" "is_kind" (defArgs sIsKind) (defBody sIsKind) (defScope sIsKind) .none kV4 dc4 pm4 an4 cd4 ct4), sl4⟩)
    (c4 : PySem.W.codeIn K cd4 "is_kind" = true)
    (k4 : PySem.W.keepIn K (.ref f4) = true)
    (a5 : PySem.W.nsIn K mainGlobals "is_term" = some (some (.ref f5)))
    (l5 : K.lookup f5 = some ⟨oc5, od5, .func (PySem.W.fnOf "is_term" "is_term" (defArgs sIsTerm) (defBody sIsTerm) (defScope sIsTerm) .none kV5 dc5 pm5 an5 cd5 ct5), sl5⟩)
    (c5 : PySem.W.codeIn K cd5 "is_term" = true)
    (k5 : PySem.W.keepIn K (.ref f5) = true)
    (a6 : PySem.W.nsIn K mainGlobals "are_terms" = some (some (.ref f6)))
    (l6 : K.lookup f6 = some ⟨oc6, od6, .func (PySem.W.fnOf "are_terms" "are_terms" (defArgs sAreTerms) (defBody sAreTerms) (defScope sAreTerms) .none kV6 dc6 pm6 an6 cd6 ct6), sl6⟩)
    (c6 : PySem.W.codeIn K cd6 "are_terms" = true)
    (k6 : PySem.W.keepIn K (.ref f6) = true)
    (a7 : PySem.W.nsIn K mainGlobals "are_ends" = some (some (.ref f7)))
    (l7 : K.lookup f7 = some ⟨oc7, od7, .func (PySem.W.fnOf "are_ends" "are_ends" (defArgs sAreEnds) (defBody sAreEnds) (defScope sAreEnds) .none kV7 dc7 pm7 an7 cd7 ct7), sl7⟩)
    (c7 : PySem.W.codeIn K cd7 "are_ends" = true)
    (k7 : PySem.W.keepIn K (.ref f7) = true)
    (a8 : PySem.W.nsIn K mainGlobals "is_part" = some (some (.ref f8)))
    (l8 : K.lookup f8 = some ⟨oc8, od8, .func (PySem.W.fnOf "is_part" "is_part" (defArgs sIsPart) (defBody sIsPart) (defScope sIsPart) .none kV8 dc8 pm8 an8 cd8 ct8), sl8⟩)
    (c8 : PySem.W.codeIn K cd8 "is_part" = true)
    (k8 : PySem.W.keepIn K (.ref f8) = true)
    (a9 : PySem.W.nsIn K mainGlobals "wires_in" = some (some (.ref f9)))
    (l9 : K.lookup f9 = some ⟨oc9, od9, .func (PySem.W.fnOf "wires_in" "wires_in" (defArgs sWiresIn) (defBody sWiresIn) (defScope sWiresIn) .none kV9 dc9 pm9 an9 cd9 ct9), sl9⟩)
    (c9 : PySem.W.codeIn K cd9 "wires_in" = true)
    (k9 : PySem.W.keepIn K (.ref f9) = true)
    (a10 : PySem.W.nsIn K mainGlobals "leads_of" = some (some (.ref f10)))
    (l10 : K.lookup f10 = some ⟨oc10, od10, .func (PySem.W.fnOf "leads_of" "leads_of" (defArgs sLeadsOf) (defBody sLeadsOf) (defScope sLeadsOf) .none kV10 dc10 pm10 an10 cd10 ct10), sl10⟩)
    (c10 : PySem.W.codeIn K cd10 "leads_of" = true)
    (k10 : PySem.W.keepIn K (.ref f10) = true)
    (a11 : PySem.W.nsIn K mainGlobals "renamed" = some (some (.ref f11)))
    (l11 : K.lookup f11 = some ⟨oc11, od11, .func (PySem.W.fnOf "renamed" "renamed" (defArgs sRenamed) (defBody sRenamed) (defScope sRenamed) .none kV11 dc11 pm11 an11 cd11 ct11), sl11⟩)
    (c11 : PySem.W.codeIn K cd11 "renamed" = true)
    (k11 : PySem.W.keepIn K (.ref f11) = true)
    (a12 : PySem.W.nsIn K mainGlobals "reached_from" = some (some (.ref f12)))
    (l12 : K.lookup f12 = some ⟨oc12, od12, .func (PySem.W.fnOf "reached_from" "reached_from" (defArgs sReached) (defBody sReached) (defScope sReached) .none kV12 dc12 pm12 an12 cd12 ct12), sl12⟩)
    (c12 : PySem.W.codeIn K cd12 "reached_from" = true)
    (k12 : PySem.W.keepIn K (.ref f12) = true)
    (a13 : PySem.W.nsIn K mainGlobals "first_on_ring" = some (some (.ref f13)))
    (l13 : K.lookup f13 = some ⟨oc13, od13, .func (PySem.W.fnOf "first_on_ring" "first_on_ring" (defArgs sFirstRing) (defBody sFirstRing) (defScope sFirstRing) .none kV13 dc13 pm13 an13 cd13 ct13), sl13⟩)
    (c13 : PySem.W.codeIn K cd13 "first_on_ring" = true)
    (k13 : PySem.W.keepIn K (.ref f13) = true)
    (a14 : PySem.W.nsIn K mainGlobals "check_outs" = some (some (.ref f14)))
    (l14 : K.lookup f14 = some ⟨oc14, od14, .func (PySem.W.fnOf "check_outs" "check_outs" (defArgs sCkOuts) (defBody sCkOuts) (defScope sCkOuts) .none kV14 dc14 pm14 an14 cd14 ct14), sl14⟩)
    (c14 : PySem.W.codeIn K cd14 "check_outs" = true)
    (k14 : PySem.W.keepIn K (.ref f14) = true)
    (a15 : PySem.W.nsIn K mainGlobals "check_known" = some (some (.ref f15)))
    (l15 : K.lookup f15 = some ⟨oc15, od15, .func (PySem.W.fnOf "check_known" "check_known" (defArgs sCkKnown) (defBody sCkKnown) (defScope sCkKnown) .none kV15 dc15 pm15 an15 cd15 ct15), sl15⟩)
    (c15 : PySem.W.codeIn K cd15 "check_known" = true)
    (k15 : PySem.W.keepIn K (.ref f15) = true)
    (a16 : PySem.W.nsIn K mainGlobals "check_wires" = some (some (.ref f16)))
    (l16 : K.lookup f16 = some ⟨oc16, od16, .func (PySem.W.fnOf "check_wires" "check_wires" (defArgs sCkWires) (defBody sCkWires) (defScope sCkWires) .none kV16 dc16 pm16 an16 cd16 ct16), sl16⟩)
    (c16 : PySem.W.codeIn K cd16 "check_wires" = true)
    (k16 : PySem.W.keepIn K (.ref f16) = true)
    (a17 : PySem.W.nsIn K mainGlobals "check_uses" = some (some (.ref f17)))
    (l17 : K.lookup f17 = some ⟨oc17, od17, .func (PySem.W.fnOf "check_uses" "check_uses" (defArgs sCkUses) (defBody sCkUses) (defScope sCkUses) .none kV17 dc17 pm17 an17 cd17 ct17), sl17⟩)
    (c17 : PySem.W.codeIn K cd17 "check_uses" = true)
    (k17 : PySem.W.keepIn K (.ref f17) = true)
    (a18 : PySem.W.nsIn K mainGlobals "plain_of_use" = some (some (.ref f18)))
    (l18 : K.lookup f18 = some ⟨oc18, od18, .func (PySem.W.fnOf "plain_of_use" "plain_of_use" (defArgs sPlainUse) (defBody sPlainUse) (defScope sPlainUse) .none kV18 dc18 pm18 an18 cd18 ct18), sl18⟩)
    (c18 : PySem.W.codeIn K cd18 "plain_of_use" = true)
    (k18 : PySem.W.keepIn K (.ref f18) = true)
    (a19 : PySem.W.nsIn K mainGlobals "plain_of" = some (some (.ref f19)))
    (l19 : K.lookup f19 = some ⟨oc19, od19, .func (PySem.W.fnOf "plain_of" "plain_of" (defArgs sPlainOf) (defBody sPlainOf) (defScope sPlainOf) .none kV19 dc19 pm19 an19 cd19 ct19), sl19⟩)
    (c19 : PySem.W.codeIn K cd19 "plain_of" = true)
    (k19 : PySem.W.keepIn K (.ref f19) = true)
    (a20 : PySem.W.nsIn K mainGlobals "boxes_in" = some (some (.ref f20)))
    (l20 : K.lookup f20 = some ⟨oc20, od20, .func (PySem.W.fnOf "boxes_in" "boxes_in" (defArgs sBoxesIn) (defBody sBoxesIn) (defScope sBoxesIn) .none kV20 dc20 pm20 an20 cd20 ct20), sl20⟩)
    (c20 : PySem.W.codeIn K cd20 "boxes_in" = true)
    (k20 : PySem.W.keepIn K (.ref f20) = true)
    (a21 : PySem.W.nsIn K mainGlobals "check_kinds" = some (some (.ref f21)))
    (l21 : K.lookup f21 = some ⟨oc21, od21, .func (PySem.W.fnOf "check_kinds" "check_kinds" (defArgs sCkKinds) (defBody sCkKinds) (defScope sCkKinds) .none kV21 dc21 pm21 an21 cd21 ct21), sl21⟩)
    (c21 : PySem.W.codeIn K cd21 "check_kinds" = true)
    (k21 : PySem.W.keepIn K (.ref f21) = true)
    (a22 : PySem.W.nsIn K mainGlobals "_law_bag" = some (some (.ref f22)))
    (l22 : K.lookup f22 = some ⟨oc22, od22, .func (PySem.W.fnOf "_law_bag" "_law_bag" (defArgs sBag) (defBody sBag) (defScope sBag) .none kV22 dc22 pm22 an22 cd22 ct22), sl22⟩)
    (c22 : PySem.W.codeIn K cd22 "_law_bag" = true)
    (k22 : PySem.W.keepIn K (.ref f22) = true)
    (a23 : PySem.W.nsIn K mainGlobals "_law_pull" = some (some (.ref f23)))
    (l23 : K.lookup f23 = some ⟨oc23, od23, .func (PySem.W.fnOf "_law_pull" "_law_pull" (defArgs sPull) (defBody sPull) (defScope sPull) .none kV23 dc23 pm23 an23 cd23 ct23), sl23⟩)
    (c23 : PySem.W.codeIn K cd23 "_law_pull" = true)
    (k23 : PySem.W.keepIn K (.ref f23) = true)
    (a24 : PySem.W.nsIn K mainGlobals "_law_any" = some (some (.ref f24)))
    (l24 : K.lookup f24 = some ⟨oc24, od24, .func (PySem.W.fnOf "_law_any" "_law_any" (defArgs sAny) (defBody sAny) (defScope sAny) .none kV24 dc24 pm24 an24 cd24 ct24), sl24⟩)
    (c24 : PySem.W.codeIn K cd24 "_law_any" = true)
    (k24 : PySem.W.keepIn K (.ref f24) = true)
    (a25 : PySem.W.nsIn K mainGlobals "_law_same" = some (some (.ref f25)))
    (l25 : K.lookup f25 = some ⟨oc25, od25, .func (PySem.W.fnOf "_law_same" "_law_same" (defArgs sSame) (defBody sSame) (defScope sSame) .none kV25 dc25 pm25 an25 cd25 ct25), sl25⟩)
    (c25 : PySem.W.codeIn K cd25 "_law_same" = true)
    (k25 : PySem.W.keepIn K (.ref f25) = true)
    (a26 : PySem.W.nsIn K mainGlobals "_law_why" = some (some (.ref f26)))
    (l26 : K.lookup f26 = some ⟨oc26, od26, .func (PySem.W.fnOf "_law_why" "_law_why" (defArgs sWhy) (defBody sWhy) (defScope sWhy) .none kV26 dc26 pm26 an26 cd26 ct26), sl26⟩)
    (c26 : PySem.W.codeIn K cd26 "_law_why" = true)
    (k26 : PySem.W.keepIn K (.ref f26) = true)
    (a27 : PySem.W.nsIn K mainGlobals "_law_names" = some (some (.ref f27)))
    (l27 : K.lookup f27 = some ⟨oc27, od27, .func (PySem.W.fnOf "_law_names" "_law_names" (defArgs sNames) (defBody sNames) (defScope sNames) .none kV27 dc27 pm27 an27 cd27 ct27), sl27⟩)
    (c27 : PySem.W.codeIn K cd27 "_law_names" = true)
    (k27 : PySem.W.keepIn K (.ref f27) = true)
    (a28 : PySem.W.nsIn K mainGlobals "_law_mixed" = some (some (.ref f28)))
    (l28 : K.lookup f28 = some ⟨oc28, od28, .func (PySem.W.fnOf "_law_mixed" "_law_mixed" (defArgs sMixed) (defBody sMixed) (defScope sMixed) .none kV28 dc28 pm28 an28 cd28 ct28), sl28⟩)
    (c28 : PySem.W.codeIn K cd28 "_law_mixed" = true)
    (k28 : PySem.W.keepIn K (.ref f28) = true)
    (a29 : PySem.W.nsIn K mainGlobals "_law_field" = some (some (.ref f29)))
    (l29 : K.lookup f29 = some ⟨oc29, od29, .func (PySem.W.fnOf "_law_field" "_law_field" (defArgs sField) (defBody sField) (defScope sField) .none kV29 dc29 pm29 an29 cd29 ct29), sl29⟩)
    (c29 : PySem.W.codeIn K cd29 "_law_field" = true)
    (k29 : PySem.W.keepIn K (.ref f29) = true)
    (al : PySem.W.nsIn K mainGlobals "law" = some (some (.ref fl)))
    (ll : K.lookup fl = some ⟨ocl, odl, .func (PySem.W.fnOf "law" "law" (defArgs sLaw) (defBody sLaw) (defScope sLaw) .none kVl dcl pml anl (.ref c0) ctl), sll⟩)
    (cl : PySem.W.codeIn K (.ref c0) "law" = true)
    (z_isinstance : PySem.W.nsIn K mainGlobals "isinstance" = some none)
    (z_str : PySem.W.nsIn K mainGlobals "str" = some none)
    (z_int : PySem.W.nsIn K mainGlobals "int" = some none)
    (z_bool : PySem.W.nsIn K mainGlobals "bool" = some none)
    (z_len : PySem.W.nsIn K mainGlobals "len" = some none)
    (z_all : PySem.W.nsIn K mainGlobals "all" = some none)
    (z_list : PySem.W.nsIn K mainGlobals "list" = some none)
    (z_tuple : PySem.W.nsIn K mainGlobals "tuple" = some none)
    (z_zip : PySem.W.nsIn K mainGlobals "zip" = some none)
    (z_range : PySem.W.nsIn K mainGlobals "range" = some none)
    (z_enumerate : PySem.W.nsIn K mainGlobals "enumerate" = some none)
    (z_max : PySem.W.nsIn K mainGlobals "max" = some none)
    (z_dict : PySem.W.nsIn K mainGlobals "dict" = some none)
    (e_LETTERS : PySem.W.nsIn K mainGlobals "LETTERS" = some (some (.str letters tk_LETTERS)))
    (e_LONGEST_NAME : PySem.W.nsIn K mainGlobals "LONGEST_NAME" = some (some (.int 4 tk_LONGEST_NAME)))
    (e_MOST_FACTOR : PySem.W.nsIn K mainGlobals "MOST_FACTOR" = some (some (.int 99 tk_MOST_FACTOR)))
    (e_MOST_DELAY : PySem.W.nsIn K mainGlobals "MOST_DELAY" = some (some (.int 4 tk_MOST_DELAY)))
    (e_MOST_TERMS : PySem.W.nsIn K mainGlobals "MOST_TERMS" = some (some (.int 6 tk_MOST_TERMS)))
    (e_MOST_ENDS : PySem.W.nsIn K mainGlobals "MOST_ENDS" = some (some (.int 4 tk_MOST_ENDS)))
    (e_MOST_OUTS : PySem.W.nsIn K mainGlobals "MOST_OUTS" = some (some (.int 4 tk_MOST_OUTS)))
    (e_MOST_SOURCES : PySem.W.nsIn K mainGlobals "MOST_SOURCES" = some (some (.int 4 tk_MOST_SOURCES)))
    (e_MOST_WIRES : PySem.W.nsIn K mainGlobals "MOST_WIRES" = some (some (.int 24 tk_MOST_WIRES)))
    (eE : PySem.W.nsIn K mainGlobals "ENDS" = some (some (.ref dE)))
    (lE : K.lookup dE = some ⟨.type "dict", none, .dict esE nE, #[]⟩)
    (oE : (dE == sysModules) = false)
    (kE : PySem.W.KeysLit w.params esE.toList)
    (vE0 : PySem.W.nsIn K dE "plain" = some (some (.int 1 tE0)))
    (vE1 : PySem.W.nsIn K dE "odd" = some (some (.int 1 tE1)))
    (vE2 : PySem.W.nsIn K dE "keep" = some (some (.int 1 tE2)))
    (vE3 : PySem.W.nsIn K dE "pair" = some (some (.int 2 tE3)))
    (uE_source : PySem.W.nsIn K dE "source" = some none)
    (uE_mix : PySem.W.nsIn K dE "mix" = some none)
    (uE_use : PySem.W.nsIn K dE "use" = some none)
    (uE_box : PySem.W.nsIn K dE "box" = some none)
    (uE_Source : PySem.W.nsIn K dE "Source" = some none)
    (a_CN : PySem.W.nsIn K mainGlobals "Net" = some (some (.ref CN)))
    (pgCN : PySem.W.plainGet K CN Str.empty = true)
    (hdCN : PySem.W.hasDictIn K CN = true)
    (poCN : PySem.W.plainOver K CN = true)
    (saCN : PySem.W.findIn K (.ref CN) "__setattr__" = some (some (.builtin "object.__setattr__")))
    (mkCN : PySem.W.makesIn K CN = true)
    (kpCN : PySem.W.keepIn K (.ref CN) = true)
    (ci_CN : PySem.W.clsIn K CN = some cdtCN)
    (noCN_parts : PySem.W.findIn K (.ref CN) "_parts" = some none)
    (noCN_outs : PySem.W.findIn K (.ref CN) "_outs" = some none)
    (noCN_pieces : PySem.W.findIn K (.ref CN) "_pieces" = some none)
    (noCN_plain : PySem.W.findIn K (.ref CN) "_plain" = some none)
    (coMOST : PySem.W.findIn K (.ref CN) "MOST" = some (some (.int 16 tcMOST)))
    (cgMOST : PySem.W.specialIn K (.int 16 tcMOST) "__get__" = some none)
    (coBOXES : PySem.W.findIn K (.ref CN) "BOXES" = some (some (.int 8 tcBOXES)))
    (cgBOXES : PySem.W.specialIn K (.int 8 tcBOXES) "__get__" = some none)
    (aNI : PySem.W.findIn K (.ref CN) "__init__" = some (some (.ref fNI)))
    (nNI : PySem.W.isFn K (.ref fNI) = true)
    (lNI : K.lookup fNI = some ⟨ocNI, odNI, .func (PySem.W.fnOf "__init__" "Net.__init__" (defArgs sN_init) (defBody sN_init) (defScope sN_init) .none (.ref DNI) dcNI pmNI anNI cdNI ctNI), slNI⟩)
    (cNI : PySem.W.codeIn K cdNI "Net.__init__" = true)
    (kNI : PySem.W.keepIn K (.ref fNI) = true)
    (kwNI : PySem.W.nsIn K DNI "pieces" = some (some .none))
    (aN0 : PySem.W.findIn K (.ref CN) "parts" = some (some (.ref fN0)))
    (nN0 : PySem.W.isFn K (.ref fN0) = true)
    (lN0 : K.lookup fN0 = some ⟨ocN0, odN0, .func (PySem.W.fnOf "parts" "Net.parts" (defArgs sN_parts) (defBody sN_parts) (defScope sN_parts) .none kVN0 dcN0 pmN0 anN0 cdN0 ctN0), slN0⟩)
    (cN0 : PySem.W.codeIn K cdN0 "Net.parts" = true)
    (kN0 : PySem.W.keepIn K (.ref fN0) = true)
    (aN1 : PySem.W.findIn K (.ref CN) "outs" = some (some (.ref fN1)))
    (nN1 : PySem.W.isFn K (.ref fN1) = true)
    (lN1 : K.lookup fN1 = some ⟨ocN1, odN1, .func (PySem.W.fnOf "outs" "Net.outs" (defArgs sN_outs) (defBody sN_outs) (defScope sN_outs) .none kVN1 dcN1 pmN1 anN1 cdN1 ctN1), slN1⟩)
    (cN1 : PySem.W.codeIn K cdN1 "Net.outs" = true)
    (kN1 : PySem.W.keepIn K (.ref fN1) = true)
    (aN2 : PySem.W.findIn K (.ref CN) "plain" = some (some (.ref fN2)))
    (nN2 : PySem.W.isFn K (.ref fN2) = true)
    (lN2 : K.lookup fN2 = some ⟨ocN2, odN2, .func (PySem.W.fnOf "plain" "Net.plain" (defArgs sN_plain) (defBody sN_plain) (defScope sN_plain) .none kVN2 dcN2 pmN2 anN2 cdN2 ctN2), slN2⟩)
    (cN2 : PySem.W.codeIn K cdN2 "Net.plain" = true)
    (kN2 : PySem.W.keepIn K (.ref fN2) = true)
    (aN3 : PySem.W.findIn K (.ref CN) "wires" = some (some (.ref fN3)))
    (nN3 : PySem.W.isFn K (.ref fN3) = true)
    (lN3 : K.lookup fN3 = some ⟨ocN3, odN3, .func (PySem.W.fnOf "wires" "Net.wires" (defArgs sN_wires) (defBody sN_wires) (defScope sN_wires) .none kVN3 dcN3 pmN3 anN3 cdN3 ctN3), slN3⟩)
    (cN3 : PySem.W.codeIn K cdN3 "Net.wires" = true)
    (kN3 : PySem.W.keepIn K (.ref fN3) = true)
    (aN4 : PySem.W.findIn K (.ref CN) "sources" = some (some (.ref fN4)))
    (nN4 : PySem.W.isFn K (.ref fN4) = true)
    (lN4 : K.lookup fN4 = some ⟨ocN4, odN4, .func (PySem.W.fnOf "sources" "Net.sources" (defArgs sN_sources) (defBody sN_sources) (defScope sN_sources) .none kVN4 dcN4 pmN4 anN4 cdN4 ctN4), slN4⟩)
    (cN4 : PySem.W.codeIn K cdN4 "Net.sources" = true)
    (kN4 : PySem.W.keepIn K (.ref fN4) = true)
    (aN5 : PySem.W.findIn K (.ref CN) "boxes" = some (some (.ref fN5)))
    (nN5 : PySem.W.isFn K (.ref fN5) = true)
    (lN5 : K.lookup fN5 = some ⟨ocN5, odN5, .func (PySem.W.fnOf "boxes" "Net.boxes" (defArgs sN_boxes) (defBody sN_boxes) (defScope sN_boxes) .none kVN5 dcN5 pmN5 anN5 cdN5 ctN5), slN5⟩)
    (cN5 : PySem.W.codeIn K cdN5 "Net.boxes" = true)
    (kN5 : PySem.W.keepIn K (.ref fN5) = true)
    (aN6 : PySem.W.findIn K (.ref CN) "kinds" = some (some (.ref fN6)))
    (nN6 : PySem.W.isFn K (.ref fN6) = true)
    (lN6 : K.lookup fN6 = some ⟨ocN6, odN6, .func (PySem.W.fnOf "kinds" "Net.kinds" (defArgs sN_kinds) (defBody sN_kinds) (defScope sN_kinds) .none kVN6 dcN6 pmN6 anN6 cdN6 ctN6), slN6⟩)
    (cN6 : PySem.W.codeIn K cdN6 "Net.kinds" = true)
    (kN6 : PySem.W.keepIn K (.ref fN6) = true)
    (uU : PySem.W.nsIn K mainGlobals "UnopenedError" = some (some (.ref U)))
    (uMM : PySem.W.nsIn K mainGlobals "Missing" = some (some (.ref MM)))
    (uNL : PySem.W.nsIn K mainGlobals "NothingLeft" = some (some (.ref NL)))
    (hD : CX K CD eD "DuplicateName" "DuplicateName.__init__" sEDuplicateName (.ref U :: XV.tailVE) "ValueError.__new__" [])
    (noD_at : PySem.W.findIn K (.ref CD) "at" = some none)
    (noD_word : PySem.W.findIn K (.ref CD) "word" = some none)
    (noD_name : PySem.W.findIn K (.ref CD) "name" = some none)
    (noD_piece : PySem.W.findIn K (.ref CD) "piece" = some none)
    (noD_subject : PySem.W.findIn K (.ref CD) "subject" = some none)
    (noD_most : PySem.W.findIn K (.ref CD) "most" = some none)
    (noD_place : PySem.W.findIn K (.ref CD) "place" = some none)
    (exD : PySem.W.exmAny K (.ref CD) [.ref U, .ref MM, .ref NL] = some true)
    (hU : CX K CU eU "UnknownName" "UnknownName.__init__" sEUnknownName (.ref MM :: XV.tailLE) "LookupError.__new__" [])
    (noU_at : PySem.W.findIn K (.ref CU) "at" = some none)
    (noU_word : PySem.W.findIn K (.ref CU) "word" = some none)
    (noU_name : PySem.W.findIn K (.ref CU) "name" = some none)
    (noU_piece : PySem.W.findIn K (.ref CU) "piece" = some none)
    (noU_subject : PySem.W.findIn K (.ref CU) "subject" = some none)
    (noU_most : PySem.W.findIn K (.ref CU) "most" = some none)
    (noU_place : PySem.W.findIn K (.ref CU) "place" = some none)
    (exU : PySem.W.exmAny K (.ref CU) [.ref U, .ref MM, .ref NL] = some true)
    (hT : CX K CT eT "TooMany" "TooMany.__init__" sETooMany (.ref U :: XV.tailVE) "ValueError.__new__" [])
    (noT_at : PySem.W.findIn K (.ref CT) "at" = some none)
    (noT_word : PySem.W.findIn K (.ref CT) "word" = some none)
    (noT_name : PySem.W.findIn K (.ref CT) "name" = some none)
    (noT_piece : PySem.W.findIn K (.ref CT) "piece" = some none)
    (noT_subject : PySem.W.findIn K (.ref CT) "subject" = some none)
    (noT_most : PySem.W.findIn K (.ref CT) "most" = some none)
    (noT_place : PySem.W.findIn K (.ref CT) "place" = some none)
    (exT : PySem.W.exmAny K (.ref CT) [.ref U, .ref MM, .ref NL] = some true)
    (hK : CX K CK eK "UnlikeKinds" "UnlikeKinds.__init__" sEUnlikeKinds (.ref U :: XV.tailVE) "ValueError.__new__" [])
    (noK_at : PySem.W.findIn K (.ref CK) "at" = some none)
    (noK_word : PySem.W.findIn K (.ref CK) "word" = some none)
    (noK_name : PySem.W.findIn K (.ref CK) "name" = some none)
    (noK_piece : PySem.W.findIn K (.ref CK) "piece" = some none)
    (noK_subject : PySem.W.findIn K (.ref CK) "subject" = some none)
    (noK_most : PySem.W.findIn K (.ref CK) "most" = some none)
    (noK_place : PySem.W.findIn K (.ref CK) "place" = some none)
    (exK : PySem.W.exmAny K (.ref CK) [.ref U, .ref MM, .ref NL] = some true)
    (hR : CX K CR eR "Ring" "Ring.__init__" sERing (.ref U :: XV.tailVE) "ValueError.__new__" [])
    (noR_at : PySem.W.findIn K (.ref CR) "at" = some none)
    (noR_word : PySem.W.findIn K (.ref CR) "word" = some none)
    (noR_name : PySem.W.findIn K (.ref CR) "name" = some none)
    (noR_piece : PySem.W.findIn K (.ref CR) "piece" = some none)
    (noR_subject : PySem.W.findIn K (.ref CR) "subject" = some none)
    (noR_most : PySem.W.findIn K (.ref CR) "most" = some none)
    (noR_place : PySem.W.findIn K (.ref CR) "place" = some none)
    (exR : PySem.W.exmAny K (.ref CR) [.ref U, .ref MM, .ref NL] = some true)
    (hP : CX K CP eP "InvalidPart" "InvalidPart.__init__" sEInvalidPart (.ref U :: XV.tailVE) "ValueError.__new__" [])
    (noP_at : PySem.W.findIn K (.ref CP) "at" = some none)
    (noP_word : PySem.W.findIn K (.ref CP) "word" = some none)
    (noP_name : PySem.W.findIn K (.ref CP) "name" = some none)
    (noP_piece : PySem.W.findIn K (.ref CP) "piece" = some none)
    (noP_subject : PySem.W.findIn K (.ref CP) "subject" = some none)
    (noP_most : PySem.W.findIn K (.ref CP) "most" = some none)
    (noP_place : PySem.W.findIn K (.ref CP) "place" = some none)
    (exP : PySem.W.exmAny K (.ref CP) [.ref U, .ref MM, .ref NL] = some true)
    (hO : CX K CO eO "InvalidOuts" "InvalidOuts.__init__" sEInvalidOuts (.ref U :: XV.tailVE) "ValueError.__new__" [])
    (noO_at : PySem.W.findIn K (.ref CO) "at" = some none)
    (noO_word : PySem.W.findIn K (.ref CO) "word" = some none)
    (noO_name : PySem.W.findIn K (.ref CO) "name" = some none)
    (noO_piece : PySem.W.findIn K (.ref CO) "piece" = some none)
    (noO_subject : PySem.W.findIn K (.ref CO) "subject" = some none)
    (noO_most : PySem.W.findIn K (.ref CO) "most" = some none)
    (noO_place : PySem.W.findIn K (.ref CO) "place" = some none)
    (exO : PySem.W.exmAny K (.ref CO) [.ref U, .ref MM, .ref NL] = some true)
    (hV : CX K CV eV "UnknownPiece" "UnknownPiece.__init__" sEUnknownPiece (.ref MM :: XV.tailLE) "LookupError.__new__" [])
    (noV_at : PySem.W.findIn K (.ref CV) "at" = some none)
    (noV_word : PySem.W.findIn K (.ref CV) "word" = some none)
    (noV_name : PySem.W.findIn K (.ref CV) "name" = some none)
    (noV_piece : PySem.W.findIn K (.ref CV) "piece" = some none)
    (noV_subject : PySem.W.findIn K (.ref CV) "subject" = some none)
    (noV_most : PySem.W.findIn K (.ref CV) "most" = some none)
    (noV_place : PySem.W.findIn K (.ref CV) "place" = some none)
    (exV : PySem.W.exmAny K (.ref CV) [.ref U, .ref MM, .ref NL] = some true)
    (hI : CX K CI eI "InvalidUse" "InvalidUse.__init__" sEInvalidUse (.ref U :: XV.tailVE) "ValueError.__new__" [])
    (noI_at : PySem.W.findIn K (.ref CI) "at" = some none)
    (noI_word : PySem.W.findIn K (.ref CI) "word" = some none)
    (noI_name : PySem.W.findIn K (.ref CI) "name" = some none)
    (noI_piece : PySem.W.findIn K (.ref CI) "piece" = some none)
    (noI_subject : PySem.W.findIn K (.ref CI) "subject" = some none)
    (noI_most : PySem.W.findIn K (.ref CI) "most" = some none)
    (noI_place : PySem.W.findIn K (.ref CI) "place" = some none)
    (exI : PySem.W.exmAny K (.ref CI) [.ref U, .ref MM, .ref NL] = some true)
    : ∃ fd : FuncData, (∀ (s : Shared) (v : Value), BindsTo s fd ⟨[v], []⟩ [("_law_script", v)]) ∧ ∀ base : Heap, K.In base → base.Ns mainGlobals mg → LamX.TabB base mg c0 P0 → FnOk l.prog w K mg base CX0 11 fa fd ["_law_script"] (spLawT K P0) := by
  have F1 := fun_mk (st := sIsName) l1 c1 k1
  have m1 := PySem.W.mg_of X G a1
  have b1 := F1.binds (ps := ["value"]) fun _ _ _ _ _ _ us hl => match us, hl with | [_], _ => rfl
  have F2 := fun_mk (st := sIsInteger) l2 c2 k2
  have m2 := PySem.W.mg_of X G a2
  have b2 := F2.binds (ps := ["value"]) fun _ _ _ _ _ _ us hl => match us, hl with | [_], _ => rfl
  have F3 := fun_mk (st := sIsNumber) l3 c3 k3
  have m3 := PySem.W.mg_of X G a3
  have b3 := F3.binds (ps := ["value", "least", "most"]) fun _ _ _ _ _ _ us hl => match us, hl with | [_, _, _], _ => rfl
  have F4 := fun_mk (st := sIsKind) l4 c4 k4
  have m4 := PySem.W.mg_of X G a4
  have b4 := F4.binds (ps := ["value"]) fun _ _ _ _ _ _ us hl => match us, hl with | [_], _ => rfl
  have F5 := fun_mk (st := sIsTerm) l5 c5 k5
  have m5 := PySem.W.mg_of X G a5
  have b5 := F5.binds (ps := ["value"]) fun _ _ _ _ _ _ us hl => match us, hl with | [_], _ => rfl
  have F6 := fun_mk (st := sAreTerms) l6 c6 k6
  have m6 := PySem.W.mg_of X G a6
  have b6 := F6.binds (ps := ["value"]) fun _ _ _ _ _ _ us hl => match us, hl with | [_], _ => rfl
  have F7 := fun_mk (st := sAreEnds) l7 c7 k7
  have m7 := PySem.W.mg_of X G a7
  have b7 := F7.binds (ps := ["value"]) fun _ _ _ _ _ _ us hl => match us, hl with | [_], _ => rfl
  have F8 := fun_mk (st := sIsPart) l8 c8 k8
  have m8 := PySem.W.mg_of X G a8
  have b8 := F8.binds (ps := ["value"]) fun _ _ _ _ _ _ us hl => match us, hl with | [_], _ => rfl
  have F9 := fun_mk (st := sWiresIn) l9 c9 k9
  have m9 := PySem.W.mg_of X G a9
  have b9 := F9.binds (ps := ["part"]) fun _ _ _ _ _ _ us hl => match us, hl with | [_], _ => rfl
  have F10 := fun_mk (st := sLeadsOf) l10 c10 k10
  have m10 := PySem.W.mg_of X G a10
  have b10 := F10.binds (ps := ["part"]) fun _ _ _ _ _ _ us hl => match us, hl with | [_], _ => rfl
  have F11 := fun_mk (st := sRenamed) l11 c11 k11
  have m11 := PySem.W.mg_of X G a11
  have b11 := F11.binds (ps := ["part", "names"]) fun _ _ _ _ _ _ us hl => match us, hl with | [_, _], _ => rfl
  have F12 := fun_mk (st := sReached) l12 c12 k12
  have m12 := PySem.W.mg_of X G a12
  have b12 := F12.binds (ps := ["place", "leads"]) fun _ _ _ _ _ _ us hl => match us, hl with | [_, _], _ => rfl
  have F13 := fun_mk (st := sFirstRing) l13 c13 k13
  have m13 := PySem.W.mg_of X G a13
  have b13 := F13.binds (ps := ["leads"]) fun _ _ _ _ _ _ us hl => match us, hl with | [_], _ => rfl
  have F14 := fun_mk (st := sCkOuts) l14 c14 k14
  have m14 := PySem.W.mg_of X G a14
  have b14 := F14.binds (ps := ["outs"]) fun _ _ _ _ _ _ us hl => match us, hl with | [_], _ => rfl
  have F15 := fun_mk (st := sCkKnown) l15 c15 k15
  have m15 := PySem.W.mg_of X G a15
  have b15 := F15.binds (ps := ["wires", "known"]) fun _ _ _ _ _ _ us hl => match us, hl with | [_, _], _ => rfl
  have F16 := fun_mk (st := sCkWires) l16 c16 k16
  have m16 := PySem.W.mg_of X G a16
  have b16 := F16.binds (ps := ["parts", "outs"]) fun _ _ _ _ _ _ us hl => match us, hl with | [_, _], _ => rfl
  have F17 := fun_mk (st := sCkUses) l17 c17 k17
  have m17 := PySem.W.mg_of X G a17
  have b17 := F17.binds (ps := ["parts", "pieces"]) fun _ _ _ _ _ _ us hl => match us, hl with | [_, _], _ => rfl
  have F18 := fun_mk (st := sPlainUse) l18 c18 k18
  have m18 := PySem.W.mg_of X G a18
  have b18 := F18.binds (ps := ["wire", "piece", "ends"]) fun _ _ _ _ _ _ us hl => match us, hl with | [_, _, _], _ => rfl
  have F19 := fun_mk (st := sPlainOf) l19 c19 k19
  have m19 := PySem.W.mg_of X G a19
  have b19 := F19.binds (ps := ["parts", "pieces"]) fun _ _ _ _ _ _ us hl => match us, hl with | [_, _], _ => rfl
  have F20 := fun_mk (st := sBoxesIn) l20 c20 k20
  have m20 := PySem.W.mg_of X G a20
  have b20 := F20.binds (ps := ["plain"]) fun _ _ _ _ _ _ us hl => match us, hl with | [_], _ => rfl
  have F21 := fun_mk (st := sCkKinds) l21 c21 k21
  have m21 := PySem.W.mg_of X G a21
  have b21 := F21.binds (ps := ["boxes"]) fun _ _ _ _ _ _ us hl => match us, hl with | [_], _ => rfl
  have F22 := fun_mk (st := sBag) l22 c22 k22
  have m22 := PySem.W.mg_of X G a22
  have b22 := F22.binds (ps := ["_law_script"]) fun _ _ _ _ _ _ us hl => match us, hl with | [_], _ => rfl
  have F23 := fun_mk (st := sPull) l23 c23 k23
  have m23 := PySem.W.mg_of X G a23
  have b23 := F23.binds (ps := ["_law_bag_here", "_law_many"]) fun _ _ _ _ _ _ us hl => match us, hl with | [_, _], _ => rfl
  have F24 := fun_mk (st := sAny) l24 c24 k24
  have m24 := PySem.W.mg_of X G a24
  have b24 := F24.binds (ps := ["_law_bag_here", "_law_things"]) fun _ _ _ _ _ _ us hl => match us, hl with | [_, _], _ => rfl
  have F25 := fun_mk (st := sSame) l25 c25 k25
  have m25 := PySem.W.mg_of X G a25
  have b25 := F25.binds (ps := ["_law_found", "_law_due"]) fun _ _ _ _ _ _ us hl => match us, hl with | [_, _], _ => rfl
  have F26 := fun_mk (st := sWhy) l26 c26 k26
  have m26 := PySem.W.mg_of X G a26
  have b26 := F26.binds (ps := ["_law_ask"]) fun _ _ _ _ _ _ us hl => match us, hl with | [_], _ => rfl
  have F27 := fun_mk (st := sNames) l27 c27 k27
  have m27 := PySem.W.mg_of X G a27
  have b27 := F27.binds (ps := ["_law_bag_here", "_law_many"]) fun _ _ _ _ _ _ us hl => match us, hl with | [_, _], _ => rfl
  have F28 := fun_mk (st := sMixed) l28 c28 k28
  have m28 := PySem.W.mg_of X G a28
  have b28 := F28.binds (ps := ["_law_bag_here", "_law_things"]) fun _ _ _ _ _ _ us hl => match us, hl with | [_, _], _ => rfl
  have F29 := fun_mk (st := sField) l29 c29 k29
  have m29 := PySem.W.mg_of X G a29
  have b29 := F29.binds (ps := ["_law_e"]) fun _ _ _ _ _ _ us hl => match us, hl with | [_], _ => rfl
  have ml := PySem.W.mg_of X G al
  cases hfa.symm.trans ml
  have m_isinstance := PySem.W.mg_none_of X G z_isinstance
  have m_str := PySem.W.mg_none_of X G z_str
  have m_int := PySem.W.mg_none_of X G z_int
  have m_bool := PySem.W.mg_none_of X G z_bool
  have m_len := PySem.W.mg_none_of X G z_len
  have m_all := PySem.W.mg_none_of X G z_all
  have m_list := PySem.W.mg_none_of X G z_list
  have m_tuple := PySem.W.mg_none_of X G z_tuple
  have m_zip := PySem.W.mg_none_of X G z_zip
  have m_range := PySem.W.mg_none_of X G z_range
  have m_enumerate := PySem.W.mg_none_of X G z_enumerate
  have m_max := PySem.W.mg_none_of X G z_max
  have m_dict := PySem.W.mg_none_of X G z_dict
  have me_LETTERS := PySem.W.mg_of X G e_LETTERS
  have me_LONGEST_NAME := PySem.W.mg_of X G e_LONGEST_NAME
  have me_MOST_FACTOR := PySem.W.mg_of X G e_MOST_FACTOR
  have me_MOST_DELAY := PySem.W.mg_of X G e_MOST_DELAY
  have me_MOST_TERMS := PySem.W.mg_of X G e_MOST_TERMS
  have me_MOST_ENDS := PySem.W.mg_of X G e_MOST_ENDS
  have me_MOST_OUTS := PySem.W.mg_of X G e_MOST_OUTS
  have me_MOST_SOURCES := PySem.W.mg_of X G e_MOST_SOURCES
  have me_MOST_WIRES := PySem.W.mg_of X G e_MOST_WIRES
  have ends : ∃ (d : Addr) (es : Array DictEntry) (n : Nat), mg "ENDS" = some (.ref d) ∧ KDict K w d es n ∧ (∀ z, z ∈ kinds4 → ∃ t, PySem.W.nsIn K d z = some (some (.int (if z = "pair" then 2 else 1) t))) ∧ ∀ z : Str, z = "source" ∨ z = "mix" ∨ z = "use" → PySem.W.nsIn K d z = some none := by
    refine ⟨dE, esE, nE, PySem.W.mg_of X G eE, ⟨lE, kE, oE⟩, fun z hz => ?_, fun z hz => ?_⟩
    · simp only [kinds4, List.mem_cons, List.not_mem_nil, or_false] at hz
      rcases hz with rfl | rfl | rfl | rfl
      · exact ⟨_, by rw [if_neg (by decide +kernel)]; exact vE0⟩
      · exact ⟨_, by rw [if_neg (by decide +kernel)]; exact vE1⟩
      · exact ⟨_, by rw [if_neg (by decide +kernel)]; exact vE2⟩
      · exact ⟨_, by rw [if_pos rfl]; exact vE3⟩
    · rcases hz with rfl | rfl | rfl
      · exact uE_source
      · exact uE_mix
      · exact uE_use
  have NK : NoKinds K mg := by
    intro d hd z hz
    have e := (PySem.W.mg_of X G eE).symm.trans hd
    cases e
    rcases hz with rfl | rfl
    · exact uE_box
    · exact uE_Source
  have m_CN := PySem.W.mg_of X G a_CN
  have ClCN : Cls K CN := ⟨pgCN, hdCN, poCN, saCN⟩
  have NC : NetC K CN := ⟨ClCN, noCN_parts, noCN_outs, noCN_pieces, noCN_plain, ⟨_, ⟨coMOST, ⟨_, rfl⟩, cgMOST, by decide +kernel⟩⟩, ⟨_, ⟨coBOXES, ⟨_, rfl⟩, cgBOXES, by decide +kernel⟩⟩⟩
  have kwdNI : KwdV K (.ref DNI) [("pieces", V.non)] := .inr ⟨DNI, rfl, fun q hq => by rw [List.mem_singleton.mp hq]; exact ⟨_, kwNI, rfl⟩⟩
  have FNI : FunD K "__init__" "Net.__init__" (defArgs sN_init) (defBody sN_init) (defScope sN_init) [] [("pieces", V.non)] fNI _ := ⟨⟨_, _, _, _, _, _, _, _, _, _, rfl, lNI, cNI, .inl ⟨rfl, rfl⟩, kwdNI⟩, kNI⟩
  obtain ⟨dsNI, dvNI, bNI⟩ := FNI.binds0 (ps := netPs) 3 (by simp) rfl (fun D doc pm an cdv ct us ks h1 h2 => match us, ks, h1, h2 with | [_, _, _], [_], _, _ => ⟨_, _, _, _, _, _, rfl, rfl, rfl⟩)
  have mkN : Mk K CN fNI := ⟨mkCN, aNI, nNI, kpCN⟩
  have FN0 := fun_mk (st := sN_parts) lN0 cN0 kN0
  have MN0 : Meth K CN "parts" fN0 := ⟨aN0, nN0, kN0⟩
  have bN0 := FN0.binds (ps := ["self"]) fun _ _ _ _ _ _ us hl => match us, hl with | [_], _ => rfl
  have FN1 := fun_mk (st := sN_outs) lN1 cN1 kN1
  have MN1 : Meth K CN "outs" fN1 := ⟨aN1, nN1, kN1⟩
  have bN1 := FN1.binds (ps := ["self"]) fun _ _ _ _ _ _ us hl => match us, hl with | [_], _ => rfl
  have FN2 := fun_mk (st := sN_plain) lN2 cN2 kN2
  have MN2 : Meth K CN "plain" fN2 := ⟨aN2, nN2, kN2⟩
  have bN2 := FN2.binds (ps := ["self"]) fun _ _ _ _ _ _ us hl => match us, hl with | [_], _ => rfl
  have FN3 := fun_mk (st := sN_wires) lN3 cN3 kN3
  have MN3 : Meth K CN "wires" fN3 := ⟨aN3, nN3, kN3⟩
  have bN3 := FN3.binds (ps := ["self"]) fun _ _ _ _ _ _ us hl => match us, hl with | [_], _ => rfl
  have FN4 := fun_mk (st := sN_sources) lN4 cN4 kN4
  have MN4 : Meth K CN "sources" fN4 := ⟨aN4, nN4, kN4⟩
  have bN4 := FN4.binds (ps := ["self"]) fun _ _ _ _ _ _ us hl => match us, hl with | [_], _ => rfl
  have FN5 := fun_mk (st := sN_boxes) lN5 cN5 kN5
  have MN5 : Meth K CN "boxes" fN5 := ⟨aN5, nN5, kN5⟩
  have bN5 := FN5.binds (ps := ["self"]) fun _ _ _ _ _ _ us hl => match us, hl with | [_], _ => rfl
  have FN6 := fun_mk (st := sN_kinds) lN6 cN6 kN6
  have MN6 : Meth K CN "kinds" fN6 := ⟨aN6, nN6, kN6⟩
  have bN6 := FN6.binds (ps := ["self"]) fun _ _ _ _ _ _ us hl => match us, hl with | [_], _ => rfl
  have m_U := PySem.W.mg_of X G uU
  have m_MM := PySem.W.mg_of X G uMM
  have m_NL := PySem.W.mg_of X G uNL
  obtain ⟨gDa, gDb, gDs, gDk, gDi, gDt, fdD, GD⟩ := hD
  have TD := gDb.oex F.excBase_ValueError XV.tailVE_ok rfl rfl gDs gDk
  have qD := PySem.W.mg_of X G gDa
  have erD : ErC K [.ref U, .ref MM, .ref NL] CD := ⟨⟨gDb.2.1, gDb.2.2.1, TD.exC, by obtain ⟨_, _, _, _, _, _, _, _, _, _, _, _, _, _, lz⟩ := gDb.1; exact cl_dict lz⟩, fun n hn => by
    simp only [attrsX, List.mem_cons, List.not_mem_nil, or_false] at hn
    rcases hn with rfl | rfl | rfl | rfl | rfl | rfl | rfl | rfl
    · exact gDb.2.2.2.2.1
    · exact noD_at
    · exact noD_word
    · exact noD_name
    · exact noD_piece
    · exact noD_subject
    · exact noD_most
    · exact noD_place, exD⟩
  obtain ⟨gUa, gUb, gUs, gUk, gUi, gUt, fdU, GU⟩ := hU
  have TU := gUb.oex F.excBase_LookupError XV.tailLE_ok rfl rfl gUs gUk
  have qU := PySem.W.mg_of X G gUa
  have erU : ErC K [.ref U, .ref MM, .ref NL] CU := ⟨⟨gUb.2.1, gUb.2.2.1, TU.exC, by obtain ⟨_, _, _, _, _, _, _, _, _, _, _, _, _, _, lz⟩ := gUb.1; exact cl_dict lz⟩, fun n hn => by
    simp only [attrsX, List.mem_cons, List.not_mem_nil, or_false] at hn
    rcases hn with rfl | rfl | rfl | rfl | rfl | rfl | rfl | rfl
    · exact gUb.2.2.2.2.1
    · exact noU_at
    · exact noU_word
    · exact noU_name
    · exact noU_piece
    · exact noU_subject
    · exact noU_most
    · exact noU_place, exU⟩
  obtain ⟨gTa, gTb, gTs, gTk, gTi, gTt, fdT, GT⟩ := hT
  have TT := gTb.oex F.excBase_ValueError XV.tailVE_ok rfl rfl gTs gTk
  have qT := PySem.W.mg_of X G gTa
  have erT : ErC K [.ref U, .ref MM, .ref NL] CT := ⟨⟨gTb.2.1, gTb.2.2.1, TT.exC, by obtain ⟨_, _, _, _, _, _, _, _, _, _, _, _, _, _, lz⟩ := gTb.1; exact cl_dict lz⟩, fun n hn => by
    simp only [attrsX, List.mem_cons, List.not_mem_nil, or_false] at hn
    rcases hn with rfl | rfl | rfl | rfl | rfl | rfl | rfl | rfl
    · exact gTb.2.2.2.2.1
    · exact noT_at
    · exact noT_word
    · exact noT_name
    · exact noT_piece
    · exact noT_subject
    · exact noT_most
    · exact noT_place, exT⟩
  obtain ⟨gKa, gKb, gKs, gKk, gKi, gKt, fdK, GK⟩ := hK
  have TK := gKb.oex F.excBase_ValueError XV.tailVE_ok rfl rfl gKs gKk
  have qK := PySem.W.mg_of X G gKa
  have erK : ErC K [.ref U, .ref MM, .ref NL] CK := ⟨⟨gKb.2.1, gKb.2.2.1, TK.exC, by obtain ⟨_, _, _, _, _, _, _, _, _, _, _, _, _, _, lz⟩ := gKb.1; exact cl_dict lz⟩, fun n hn => by
    simp only [attrsX, List.mem_cons, List.not_mem_nil, or_false] at hn
    rcases hn with rfl | rfl | rfl | rfl | rfl | rfl | rfl | rfl
    · exact gKb.2.2.2.2.1
    · exact noK_at
    · exact noK_word
    · exact noK_name
    · exact noK_piece
    · exact noK_subject
    · exact noK_most
    · exact noK_place, exK⟩
  obtain ⟨gRa, gRb, gRs, gRk, gRi, gRt, fdR, GR⟩ := hR
  have TR := gRb.oex F.excBase_ValueError XV.tailVE_ok rfl rfl gRs gRk
  have qR := PySem.W.mg_of X G gRa
  have erR : ErC K [.ref U, .ref MM, .ref NL] CR := ⟨⟨gRb.2.1, gRb.2.2.1, TR.exC, by obtain ⟨_, _, _, _, _, _, _, _, _, _, _, _, _, _, lz⟩ := gRb.1; exact cl_dict lz⟩, fun n hn => by
    simp only [attrsX, List.mem_cons, List.not_mem_nil, or_false] at hn
    rcases hn with rfl | rfl | rfl | rfl | rfl | rfl | rfl | rfl
    · exact gRb.2.2.2.2.1
    · exact noR_at
    · exact noR_word
    · exact noR_name
    · exact noR_piece
    · exact noR_subject
    · exact noR_most
    · exact noR_place, exR⟩
  obtain ⟨gPa, gPb, gPs, gPk, gPi, gPt, fdP, GP⟩ := hP
  have TP := gPb.oex F.excBase_ValueError XV.tailVE_ok rfl rfl gPs gPk
  have qP := PySem.W.mg_of X G gPa
  have erP : ErC K [.ref U, .ref MM, .ref NL] CP := ⟨⟨gPb.2.1, gPb.2.2.1, TP.exC, by obtain ⟨_, _, _, _, _, _, _, _, _, _, _, _, _, _, lz⟩ := gPb.1; exact cl_dict lz⟩, fun n hn => by
    simp only [attrsX, List.mem_cons, List.not_mem_nil, or_false] at hn
    rcases hn with rfl | rfl | rfl | rfl | rfl | rfl | rfl | rfl
    · exact gPb.2.2.2.2.1
    · exact noP_at
    · exact noP_word
    · exact noP_name
    · exact noP_piece
    · exact noP_subject
    · exact noP_most
    · exact noP_place, exP⟩
  obtain ⟨gOa, gOb, gOs, gOk, gOi, gOt, fdO, GO⟩ := hO
  have TO := gOb.oex F.excBase_ValueError XV.tailVE_ok rfl rfl gOs gOk
  have qO := PySem.W.mg_of X G gOa
  have erO : ErC K [.ref U, .ref MM, .ref NL] CO := ⟨⟨gOb.2.1, gOb.2.2.1, TO.exC, by obtain ⟨_, _, _, _, _, _, _, _, _, _, _, _, _, _, lz⟩ := gOb.1; exact cl_dict lz⟩, fun n hn => by
    simp only [attrsX, List.mem_cons, List.not_mem_nil, or_false] at hn
    rcases hn with rfl | rfl | rfl | rfl | rfl | rfl | rfl | rfl
    · exact gOb.2.2.2.2.1
    · exact noO_at
    · exact noO_word
    · exact noO_name
    · exact noO_piece
    · exact noO_subject
    · exact noO_most
    · exact noO_place, exO⟩
  obtain ⟨gVa, gVb, gVs, gVk, gVi, gVt, fdV, GV⟩ := hV
  have TV := gVb.oex F.excBase_LookupError XV.tailLE_ok rfl rfl gVs gVk
  have qV := PySem.W.mg_of X G gVa
  have erV : ErC K [.ref U, .ref MM, .ref NL] CV := ⟨⟨gVb.2.1, gVb.2.2.1, TV.exC, by obtain ⟨_, _, _, _, _, _, _, _, _, _, _, _, _, _, lz⟩ := gVb.1; exact cl_dict lz⟩, fun n hn => by
    simp only [attrsX, List.mem_cons, List.not_mem_nil, or_false] at hn
    rcases hn with rfl | rfl | rfl | rfl | rfl | rfl | rfl | rfl
    · exact gVb.2.2.2.2.1
    · exact noV_at
    · exact noV_word
    · exact noV_name
    · exact noV_piece
    · exact noV_subject
    · exact noV_most
    · exact noV_place, exV⟩
  obtain ⟨gIa, gIb, gIs, gIk, gIi, gIt, fdI, GI⟩ := hI
  have TI := gIb.oex F.excBase_ValueError XV.tailVE_ok rfl rfl gIs gIk
  have qI := PySem.W.mg_of X G gIa
  have erI : ErC K [.ref U, .ref MM, .ref NL] CI := ⟨⟨gIb.2.1, gIb.2.2.1, TI.exC, by obtain ⟨_, _, _, _, _, _, _, _, _, _, _, _, _, _, lz⟩ := gIb.1; exact cl_dict lz⟩, fun n hn => by
    simp only [attrsX, List.mem_cons, List.not_mem_nil, or_false] at hn
    rcases hn with rfl | rfl | rfl | rfl | rfl | rfl | rfl | rfl
    · exact gIb.2.2.2.2.1
    · exact noI_at
    · exact noI_word
    · exact noI_name
    · exact noI_piece
    · exact noI_subject
    · exact noI_most
    · exact noI_place, exI⟩
  refine ⟨PySem.W.fnOf "law" "law" (defArgs sLaw) (defBody sLaw) (defScope sLaw) .none kVl dcl pml anl (.ref c0) ctl, fun s v => .of_eq rfl, fun base _ _ TB => ?_⟩
  have XD : Xr l.prog w K mg base CD 1 eD fdD "DuplicateName" ["self", "name"] (spI1 CD "DuplicateName" "name") (fun us ws => us ++ ws) := ⟨⟨TD, gDi, gDt, ok_eDuplicateName GD TD gDb.2.2.2.2.1 noD_name, qD⟩, Fun.kbn GD 2 [] (fun us ws => us ++ ws) (fun vs zs => vs ++ zs) (fun r rz => r.append rz) fun _ _ _ _ _ _ us ws h1 h2 => match us, ws, h1, h2 with | [_, _], [], _, _ => rfl⟩
  have XU : Xr l.prog w K mg base CU 1 eU fdU "UnknownName" ["self", "name"] (spI1 CU "UnknownName" "name") (fun us ws => us ++ ws) := ⟨⟨TU, gUi, gUt, ok_eUnknownName GU TU gUb.2.2.2.2.1 noU_name, qU⟩, Fun.kbn GU 2 [] (fun us ws => us ++ ws) (fun vs zs => vs ++ zs) (fun r rz => r.append rz) fun _ _ _ _ _ _ us ws h1 h2 => match us, ws, h1, h2 with | [_, _], [], _, _ => rfl⟩
  have XT : Xr l.prog w K mg base CT 2 eT fdT "TooMany" ["self", "subject", "most"] (spI2 CT "TooMany" "subject" "most") (fun us ws => us ++ ws) := ⟨⟨TT, gTi, gTt, ok_eTooMany GT TT gTb.2.2.2.2.1 noT_subject noT_most, qT⟩, Fun.kbn GT 3 [] (fun us ws => us ++ ws) (fun vs zs => vs ++ zs) (fun r rz => r.append rz) fun _ _ _ _ _ _ us ws h1 h2 => match us, ws, h1, h2 with | [_, _, _], [], _, _ => rfl⟩
  have XK : Xr l.prog w K mg base CK 1 eK fdK "UnlikeKinds" ["self", "name"] (spI1 CK "UnlikeKinds" "name") (fun us ws => us ++ ws) := ⟨⟨TK, gKi, gKt, ok_eUnlikeKinds GK TK gKb.2.2.2.2.1 noK_name, qK⟩, Fun.kbn GK 2 [] (fun us ws => us ++ ws) (fun vs zs => vs ++ zs) (fun r rz => r.append rz) fun _ _ _ _ _ _ us ws h1 h2 => match us, ws, h1, h2 with | [_, _], [], _, _ => rfl⟩
  have XR : Xr l.prog w K mg base CR 1 eR fdR "Ring" ["self", "place"] (spI1 CR "Ring" "place") (fun us ws => us ++ ws) := ⟨⟨TR, gRi, gRt, ok_eRing GR TR gRb.2.2.2.2.1 noR_place, qR⟩, Fun.kbn GR 2 [] (fun us ws => us ++ ws) (fun vs zs => vs ++ zs) (fun r rz => r.append rz) fun _ _ _ _ _ _ us ws h1 h2 => match us, ws, h1, h2 with | [_, _], [], _, _ => rfl⟩
  have XP : Xr l.prog w K mg base CP 1 eP fdP "InvalidPart" ["self", "at"] (spI1 CP "InvalidPart" "at") (fun us ws => us ++ ws) := ⟨⟨TP, gPi, gPt, ok_eInvalidPart GP TP gPb.2.2.2.2.1 noP_at, qP⟩, Fun.kbn GP 2 [] (fun us ws => us ++ ws) (fun vs zs => vs ++ zs) (fun r rz => r.append rz) fun _ _ _ _ _ _ us ws h1 h2 => match us, ws, h1, h2 with | [_, _], [], _, _ => rfl⟩
  have XO : Xr l.prog w K mg base CO 1 eO fdO "InvalidOuts" ["self", "at"] (spI1 CO "InvalidOuts" "at") (fun us ws => us ++ ws) := ⟨⟨TO, gOi, gOt, ok_eInvalidOuts GO TO gOb.2.2.2.2.1 noO_at, qO⟩, Fun.kbn GO 2 [] (fun us ws => us ++ ws) (fun vs zs => vs ++ zs) (fun r rz => r.append rz) fun _ _ _ _ _ _ us ws h1 h2 => match us, ws, h1, h2 with | [_, _], [], _, _ => rfl⟩
  have XV : Xr l.prog w K mg base CV 1 eV fdV "UnknownPiece" ["self", "piece"] (spI1 CV "UnknownPiece" "piece") (fun us ws => us ++ ws) := ⟨⟨TV, gVi, gVt, ok_eUnknownPiece GV TV gVb.2.2.2.2.1 noV_piece, qV⟩, Fun.kbn GV 2 [] (fun us ws => us ++ ws) (fun vs zs => vs ++ zs) (fun r rz => r.append rz) fun _ _ _ _ _ _ us ws h1 h2 => match us, ws, h1, h2 with | [_, _], [], _, _ => rfl⟩
  have XI : Xr l.prog w K mg base CI 1 eI fdI "InvalidUse" ["self", "at"] (spI1 CI "InvalidUse" "at") (fun us ws => us ++ ws) := ⟨⟨TI, gIi, gIt, ok_eInvalidUse GI TI gIb.2.2.2.2.1 noI_at, qI⟩, Fun.kbn GI 2 [] (fun us ws => us ++ ws) (fun vs zs => vs ++ zs) (fun r rz => r.append rz) fun _ _ _ _ _ _ us ws h1 h2 => match us, ws, h1, h2 with | [_, _], [], _, _ => rfl⟩
  have NT : NameTxt mg := ⟨m_isinstance, m_str, m_int, m_bool, m_len, m_all, ⟨_, me_LETTERS⟩, ⟨_, me_LONGEST_NAME⟩⟩
  have PT : PartTxt K w mg := ⟨m_isinstance, m_str, m_tuple, m_list, m_len, m_all, ⟨_, me_MOST_FACTOR⟩, ⟨_, me_MOST_DELAY⟩, ⟨_, me_MOST_TERMS⟩, ends⟩
  have NX : NetTxt K w mg := ⟨m_len, m_enumerate, ⟨_, me_MOST_OUTS⟩, ends⟩
  have NI : NiTxt mg := ⟨m_list, m_dict, m_len, ⟨_, me_MOST_SOURCES⟩, ⟨_, me_MOST_WIRES⟩⟩
  have S : SameTxt mg := ⟨m_isinstance, m_list, m_tuple, m_len, m_all, m_zip, m_bool, m_int, m_str⟩
  have TR : RangeTxt mg := ⟨m_range⟩
  have D1 : Df l.prog w K mg base 1 f1 _ "is_name" ["value"] (spName K) := ⟨ok_isname F1 NT, b1, k1, m1⟩
  have D2 : Df l.prog w K mg base 1 f2 _ "is_integer" ["value"] (spInteger K) := ⟨ok_isinteger F2 NT, b2, k2, m2⟩
  have D3 : Df l.prog w K mg base 2 f3 _ "is_number" ["value", "least", "most"] (spNumber K) := ⟨ok_isnumber F3 D2.ok b2 k2 m2, b3, k3, m3⟩
  have D4 : Df l.prog w K mg base 1 f4 _ "is_kind" ["value"] (spAsk fun _ => KindR) := ⟨ok_isKindA F4 PT NK, b4, k4, m4⟩
  have D5 : Df l.prog w K mg base 3 f5 _ "is_term" ["value"] (spAsk (TermR K)) := ⟨ok_isTermA F5 PT (D3.to fun _ _ _ _ z => z.h) (D1.to fun _ _ _ _ z => z.h), b5, k5, m5⟩
  have D7 : Df l.prog w K mg base 4 f7 _ "are_ends" ["value"] (spAsk (EndsR K)) := ⟨ok_areEndsA F7 PT ⟨_, me_MOST_ENDS⟩ (D1.to fun _ _ _ _ z => z.h), b7, k7, m7⟩
  have D6 : Df l.prog w K mg base 4 f6 _ "are_terms" ["value"] (spAsk (TermsR K)) := ⟨ok_areTermsA F6 PT D5, b6, k6, m6⟩
  have D8 : Df l.prog w K mg base 5 f8 _ "is_part" ["value"] (spAsk (PartR K)) := ⟨ok_isPartA F8 PT (D1.to fun _ _ _ _ z => z.h) D6 D7 D4, b8, k8, m8⟩
  have D9 : Df l.prog w K mg base 1 f9 _ "wires_in" ["part"] (spStrsU (fun _ => True) endsP) := ⟨ok_wiresInU F9 m_list, b9, k9, m9⟩
  have D10 : Df l.prog w K mg base 2 f10 _ "leads_of" ["part"] (spStrsU notUse leadsP) := ⟨ok_leadsOfU F10 D9, b10, k10, m10⟩
  have D11 : Df l.prog w K mg base 1 f11 _ "renamed" ["part", "names"] spRen := ⟨ok_renamed F11 m_tuple, b11, k11, m11⟩
  have D12 : Df l.prog w K mg base 1 f12 _ "reached_from" ["place", "leads"] spReached := ⟨ok_reached F12 m_list, b12, k12, m12⟩
  have D13 : Df l.prog w K mg base 2 f13 _ "first_on_ring" ["leads"] spFirst := ⟨ok_firstRing F13 D12, b13, k13, m13⟩
  have D20 : Df l.prog w K mg base 1 f20 _ "boxes_in" ["plain"] spBoxesInU := ⟨ok_boxesInU F20 NX, b20, k20, m20⟩
  have MT0 : Mt l.prog w K mg base CN 1 fN0 _ "parts" ["self"] (spFldL K CN "_parts") := ⟨MN0, ok_n_parts FN0 NC m_list, bN0⟩
  have MT1 : Mt l.prog w K mg base CN 1 fN1 _ "outs" ["self"] (spFldL K CN "_outs") := ⟨MN1, ok_n_outs FN1 NC m_list, bN1⟩
  have MT2 : Mt l.prog w K mg base CN 1 fN2 _ "plain" ["self"] (spFldL K CN "_plain") := ⟨MN2, ok_n_plain FN2 NC m_list, bN2⟩
  have MT3 : Mt l.prog w K mg base CN 1 fN3 _ "wires" ["self"] (spStrOfU CN "_plain" wiresP) := ⟨MN3, ok_n_wiresU FN3 NC, bN3⟩
  have MT4 : Mt l.prog w K mg base CN 1 fN4 _ "sources" ["self"] (spStrOfU CN "_parts" sourcesP) := ⟨MN4, ok_n_sourcesU FN4 NC, bN4⟩
  have MT5 : Mt l.prog w K mg base CN 2 fN5 _ "boxes" ["self"] (spBoxesU CN) := ⟨MN5, ok_n_boxesU FN5 NC D20, bN5⟩
  have MT6 : Mt l.prog w K mg base CN 3 fN6 _ "kinds" ["self"] (spKindsU CN) := ⟨MN6, ok_n_kinds FN6 NC MT5, bN6⟩
  have XH : DfX l.prog w K mg base 3 f14 _ "check_outs" ["outs"] (spCkOutsX K CO) := ⟨ok_ckOutsX F14 NX (D1.to fun _ _ _ _ z => z.h) XO, b14, k14, m14⟩
  have XN : DfX l.prog w K mg base 3 f15 _ "check_known" ["wires", "known"] (spCkKnownX CU) := ⟨ok_ckKnownX F15 XU, b15, k15, m15⟩
  have XW : DfX l.prog w K mg base 4 f16 _ "check_wires" ["parts", "outs"] (spCkWiresU CD CU) := ⟨ok_ckWiresU F16 XD XN D9, b16, k16, m16⟩
  have XQ : DfX l.prog w K mg base 3 f21 _ "check_kinds" ["boxes"] (spCkKindsX CK) := ⟨ok_ckKindsX F21 XK, b21, k21, m21⟩
  have XS : DfX l.prog w K mg base 3 f17 _ "check_uses" ["parts", "pieces"] (spCkUsesU CN CV CI) := ⟨ok_ckUsesU F17 NC NX MT4 XV XI, b17, k17, m17⟩
  have D18 : Df l.prog w K mg base 2 f18 _ "plain_of_use" ["wire", "piece", "ends"] (spPlainUse CN) := ⟨ok_plainUse F18 NC m_zip MT4 MT3 MT2 MT1 D11, b18, k18, m18⟩
  have D19 : Df l.prog w K mg base 3 f19 _ "plain_of" ["parts", "pieces"] (spPlainOfU CN) := ⟨ok_plainOfU F19 D18, b19, k19, m19⟩
  have okN : FnOk l.prog w K mg base (L2.CX l.prog w) 7 fNI _ netPs (spNetP K CN ⟨CD, CU, CT, CK, CR⟩ CP CO CV CI) := ok_n_initP (c := ⟨CD, CU, CT, CK, CR⟩) FNI NC NX NI D8 XH XP XW XT XR XS D19 XQ D13 D10 MT4 MT5
  have D22 : Df l.prog w K mg base 1 f22 _ "_law_bag" ["_law_script"] (spBag K) := ⟨ok_bag F22 m_len m_list, b22, k22, m22⟩
  have D23 : Df l.prog w K mg base 1 f23 _ "_law_pull" ["_law_bag_here", "_law_many"] spPull := ⟨ok_pull F23 m_len m_int, b23, k23, m23⟩
  have D24 : Df l.prog w K mg base 2 f24 _ "_law_any" ["_law_bag_here", "_law_things"] (spAny K) := ⟨ok_any F24 D23.ok b23 k23 m23 m_len, b24, k24, m24⟩
  have D25 : Df l.prog w K mg base 6 f25 _ "_law_same" ["_law_found", "_law_due"] (spSame 6) := ⟨all_same F25 S b25 m25 6, b25, k25, m25⟩
  have D27 : Df l.prog w K mg base 3 f27 _ "_law_names" ["_law_bag_here", "_law_many"] spNames2 := ⟨ok_names2 F27 D23.ok b23 k23 m23 D24.ok b24 k24 m24 m_len m_int m_range, b27, k27, m27⟩
  have D28 : Df l.prog w K mg base 2 f28 _ "_law_mixed" ["_law_bag_here", "_law_things"] (spMixed K) := ⟨ok_mixed F28 D23 m_len, b28, k28, m28⟩
  exact ok_law (g := f26) ll cl TB TR l26 c26 b26 m26 k26 (ok_fieldE F29) b29 k29 m29 m_U m_MM m_NL mkN NC okN m_CN bNI dvNI kbN1 erK erR erV erI D22 D23 D24 D27 D28 D25 MT3 MT6
theorem walk {l : PySem.W.OpenLaw} {q : Program} {loose : List Str} {XP : (Str → Option Value) → Heap → Prop} {YP : World → Heap → Prop} {d : DefRec} {K : Params → PySem.W.Frag} {c0 P0 : Addr} (hn : l.most = some 63) (hdf : d.params.defaults = [])
    (hY : ∀ (w : World) (h : Heap), YP w h → (K w.params).In h) (hT : ∀ (w : World) (h : Heap), YP w h → h.get? P0 = some { cls := .none, data := .fields #[] }) (nT : ∀ P : Params, (K P).lookup P0 = none) (hC : ∀ (w : World) (h : Heap), (K w.params).In h → PySem.W.CodeHd h c0 P0)
    (F : ∀ (w : World) (mg : Str → Option Value) (fa : Addr) (h : Heap), (K w.params).In h → h.Ns mainGlobals mg → mg d.name = some (.ref fa) →
      ∃ fd : FuncData, (∀ (s : Shared) (u : Value), BindsTo s fd ⟨[u], []⟩ [("_law_script", u)]) ∧ ∀ base : Heap, (K w.params).In base → base.Ns mainGlobals mg → LamX.TabB base mg c0 P0 → FnOk l.prog w (K w.params) mg base CX0 11 fa fd ["_law_script"] (spLawT (K w.params) P0)) :
    PySem.W.WalkO q loose XP YP l.row.toRowW d [] (fun f vs => PySem.call f vs) := by
  refine LamX.walk_ofTs (n := 63) (k := 11) (x := "_law_script") (CX := fun _ => CX0) hn (by decide) hdf ⟨rfl, by decide, by decide⟩ hY (fun w mg fa h Y KX G hm => ?_) fun _ _ _ _ _ z => z
  obtain ⟨fd, hb, hF⟩ := F w mg fa h KX G hm
  refine ⟨fd, [(c0, P0)], spLawT (K w.params) P0, fun p hp => ?_, fun p hp => ?_, fun p hp => ?_, hb, fun H a ns hl _ hP hS => ⟨a, ns, rfl, hS, hl, hP (c0, P0) (List.mem_singleton.mpr rfl), fun _ => rfl⟩, fun base hK hN hTB => hF base hK hN (hTB (c0, P0) (List.mem_singleton.mpr rfl))⟩
  · rw [List.mem_singleton.mp hp]
    exact hT w h Y
  · rw [List.mem_singleton.mp hp]
    exact nT w.params
  · rw [List.mem_singleton.mp hp]
    exact hC w h KX
end
end Un
open PySem PySem.W PyProof.Rows
set_option maxRecDepth 100000 in
set_option maxHeartbeats 0 in
theorem PySem.Challenge.cw_unopened_k84_faults_of_uses_in_order_holds : PySem.Challenge.rw_unopened_k84_faults_of_uses_in_order.Holds := by
  w_on; o_law; k_head; (case hw => w_witness2)
  k_fill
  refine Un.walk (l := PySem.Challenge.rw_unopened_k84_faults_of_uses_in_order) (c0 := 694) (P0 := 690) rfl rfl (fun w h Y => PySem.W.km_in_of Y) (fun w h Y => PySem.W.km_tabs_of Y _ (List.mem_singleton.mpr rfl)) (fun P => by kernel_rfl) (fun w h KX => PySem.W.codeHd_of_K (c := 694) (P := 690) KX (by kernel_rfl)) ?F
  case F =>
    intro w mg fa h KX G hmg
    refine' Un.all_mk KX G hmg ?a1 ?l1 ?c1 ?k1 ?a2 ?l2 ?c2 ?k2 ?a3 ?l3 ?c3 ?k3 ?a4 ?l4 ?c4 ?k4 ?a5 ?l5 ?c5 ?k5 ?a6 ?l6 ?c6 ?k6 ?a7 ?l7 ?c7 ?k7 ?a8 ?l8 ?c8 ?k8 ?a9 ?l9 ?c9 ?k9 ?a10 ?l10 ?c10 ?k10 ?a11 ?l11 ?c11 ?k11 ?a12 ?l12 ?c12 ?k12 ?a13 ?l13 ?c13 ?k13 ?a14 ?l14 ?c14 ?k14 ?a15 ?l15 ?c15 ?k15 ?a16 ?l16 ?c16 ?k16 ?a17 ?l17 ?c17 ?k17 ?a18 ?l18 ?c18 ?k18 ?a19 ?l19 ?c19 ?k19 ?a20 ?l20 ?c20 ?k20 ?a21 ?l21 ?c21 ?k21 ?a22 ?l22 ?c22 ?k22 ?a23 ?l23 ?c23 ?k23 ?a24 ?l24 ?c24 ?k24 ?a25 ?l25 ?c25 ?k25 ?a26 ?l26 ?c26 ?k26 ?a27 ?l27 ?c27 ?k27 ?a28 ?l28 ?c28 ?k28 ?a29 ?l29 ?c29 ?k29 ?al ?ll ?cl ?z_isinstance ?z_str ?z_int ?z_bool ?z_len ?z_all ?z_list ?z_tuple ?z_zip ?z_range ?z_enumerate ?z_max ?z_dict ?e_LETTERS ?e_LONGEST_NAME ?e_MOST_FACTOR ?e_MOST_DELAY ?e_MOST_TERMS ?e_MOST_ENDS ?e_MOST_OUTS ?e_MOST_SOURCES ?e_MOST_WIRES ?eE ?lE ?oE ?kE ?vE0 ?vE1 ?vE2 ?vE3 ?uE_source ?uE_mix ?uE_use ?uE_box ?uE_Source ?a_CN ?pgCN ?hdCN ?poCN ?saCN ?mkCN ?kpCN ?ci_CN ?noCN_parts ?noCN_outs ?noCN_pieces ?noCN_plain ?coMOST ?cgMOST ?coBOXES ?cgBOXES ?aNI ?nNI ?lNI ?cNI ?kNI ?kwNI ?aN0 ?nN0 ?lN0 ?cN0 ?kN0 ?aN1 ?nN1 ?lN1 ?cN1 ?kN1 ?aN2 ?nN2 ?lN2 ?cN2 ?kN2 ?aN3 ?nN3 ?lN3 ?cN3 ?kN3 ?aN4 ?nN4 ?lN4 ?cN4 ?kN4 ?aN5 ?nN5 ?lN5 ?cN5 ?kN5 ?aN6 ?nN6 ?lN6 ?cN6 ?kN6 ?uU ?uMM ?uNL ?hD ?noD_at ?noD_word ?noD_name ?noD_piece ?noD_subject ?noD_most ?noD_place ?exD ?hU ?noU_at ?noU_word ?noU_name ?noU_piece ?noU_subject ?noU_most ?noU_place ?exU ?hT ?noT_at ?noT_word ?noT_name ?noT_piece ?noT_subject ?noT_most ?noT_place ?exT ?hK ?noK_at ?noK_word ?noK_name ?noK_piece ?noK_subject ?noK_most ?noK_place ?exK ?hR ?noR_at ?noR_word ?noR_name ?noR_piece ?noR_subject ?noR_most ?noR_place ?exR ?hP ?noP_at ?noP_word ?noP_name ?noP_piece ?noP_subject ?noP_most ?noP_place ?exP ?hO ?noO_at ?noO_word ?noO_name ?noO_piece ?noO_subject ?noO_most ?noO_place ?exO ?hV ?noV_at ?noV_word ?noV_name ?noV_piece ?noV_subject ?noV_most ?noV_place ?exV ?hI ?noI_at ?noI_word ?noI_name ?noI_piece ?noI_subject ?noI_most ?noI_place ?exI
    (case a1 => k_is)
    (case l1 => k_is)
    (case c1 => k_is)
    (case k1 => k_is)
    (case a2 => k_is)
    (case l2 => k_is)
    (case c2 => k_is)
    (case k2 => k_is)
    (case a3 => k_is)
    (case l3 => k_is)
    (case c3 => k_is)
    (case k3 => k_is)
    (case a4 => k_is)
    (case l4 => k_is)
    (case c4 => k_is)
    (case k4 => k_is)
    (case a5 => k_is)
    (case l5 => k_is)
    (case c5 => k_is)
    (case k5 => k_is)
    (case a6 => k_is)
    (case l6 => k_is)
    (case c6 => k_is)
    (case k6 => k_is)
    (case a7 => k_is)
    (case l7 => k_is)
    (case c7 => k_is)
    (case k7 => k_is)
    (case a8 => k_is)
    (case l8 => k_is)
    (case c8 => k_is)
    (case k8 => k_is)
    (case a9 => k_is)
    (case l9 => k_is)
    (case c9 => k_is)
    (case k9 => k_is)
    (case a10 => k_is)
    (case l10 => k_is)
    (case c10 => k_is)
    (case k10 => k_is)
    (case a11 => k_is)
    (case l11 => k_is)
    (case c11 => k_is)
    (case k11 => k_is)
    (case a12 => k_is)
    (case l12 => k_is)
    (case c12 => k_is)
    (case k12 => k_is)
    (case a13 => k_is)
    (case l13 => k_is)
    (case c13 => k_is)
    (case k13 => k_is)
    (case a14 => k_is)
    (case l14 => k_is)
    (case c14 => k_is)
    (case k14 => k_is)
    (case a15 => k_is)
    (case l15 => k_is)
    (case c15 => k_is)
    (case k15 => k_is)
    (case a16 => k_is)
    (case l16 => k_is)
    (case c16 => k_is)
    (case k16 => k_is)
    (case a17 => k_is)
    (case l17 => k_is)
    (case c17 => k_is)
    (case k17 => k_is)
    (case a18 => k_is)
    (case l18 => k_is)
    (case c18 => k_is)
    (case k18 => k_is)
    (case a19 => k_is)
    (case l19 => k_is)
    (case c19 => k_is)
    (case k19 => k_is)
    (case a20 => k_is)
    (case l20 => k_is)
    (case c20 => k_is)
    (case k20 => k_is)
    (case a21 => k_is)
    (case l21 => k_is)
    (case c21 => k_is)
    (case k21 => k_is)
    (case a22 => k_is)
    (case l22 => k_is)
    (case c22 => k_is)
    (case k22 => k_is)
    (case a23 => k_is)
    (case l23 => k_is)
    (case c23 => k_is)
    (case k23 => k_is)
    (case a24 => k_is)
    (case l24 => k_is)
    (case c24 => k_is)
    (case k24 => k_is)
    (case a25 => k_is)
    (case l25 => k_is)
    (case c25 => k_is)
    (case k25 => k_is)
    (case a26 => k_is)
    (case l26 => k_is)
    (case c26 => k_is)
    (case k26 => k_is)
    (case a27 => k_is)
    (case l27 => k_is)
    (case c27 => k_is)
    (case k27 => k_is)
    (case a28 => k_is)
    (case l28 => k_is)
    (case c28 => k_is)
    (case k28 => k_is)
    (case a29 => k_is)
    (case l29 => k_is)
    (case c29 => k_is)
    (case k29 => k_is)
    (case al => k_is)
    (case ll => k_is)
    (case cl => k_is)
    (case z_isinstance => k_is)
    (case z_str => k_is)
    (case z_int => k_is)
    (case z_bool => k_is)
    (case z_len => k_is)
    (case z_all => k_is)
    (case z_list => k_is)
    (case z_tuple => k_is)
    (case z_zip => k_is)
    (case z_range => k_is)
    (case z_enumerate => k_is)
    (case z_max => k_is)
    (case z_dict => k_is)
    (case e_LETTERS => k_is)
    (case e_LONGEST_NAME => k_is)
    (case e_MOST_FACTOR => k_is)
    (case e_MOST_DELAY => k_is)
    (case e_MOST_TERMS => k_is)
    (case e_MOST_ENDS => k_is)
    (case e_MOST_OUTS => k_is)
    (case e_MOST_SOURCES => k_is)
    (case e_MOST_WIRES => k_is)
    (case eE => k_is)
    (case lE => k_is)
    (case oE => first | exact rfl | decide)
    (case kE => exact ⟨⟨_, _, rfl, rfl⟩, ⟨_, _, rfl, rfl⟩, ⟨_, _, rfl, rfl⟩, ⟨_, _, rfl, rfl⟩, trivial⟩)
    (case vE0 => k_is)
    (case vE1 => k_is)
    (case vE2 => k_is)
    (case vE3 => k_is)
    (case uE_source => k_is)
    (case uE_mix => k_is)
    (case uE_use => k_is)
    (case uE_box => k_is)
    (case uE_Source => k_is)
    (case a_CN => k_is)
    (case pgCN => k_is)
    (case hdCN => k_is)
    (case poCN => k_is)
    (case saCN => k_is)
    (case mkCN => k_is)
    (case kpCN => k_is)
    (case ci_CN => first | k_is | exact rfl | kernel_rfl)
    (case noCN_parts => k_is)
    (case noCN_outs => k_is)
    (case noCN_pieces => k_is)
    (case noCN_plain => k_is)
    (case coMOST => k_is)
    (case cgMOST => k_is)
    (case coBOXES => k_is)
    (case cgBOXES => k_is)
    (case aNI => k_is)
    (case nNI => k_is)
    (case lNI => k_is)
    (case cNI => k_is)
    (case kNI => k_is)
    (case kwNI => k_is)
    (case aN0 => k_is)
    (case nN0 => k_is)
    (case lN0 => k_is)
    (case cN0 => k_is)
    (case kN0 => k_is)
    (case aN1 => k_is)
    (case nN1 => k_is)
    (case lN1 => k_is)
    (case cN1 => k_is)
    (case kN1 => k_is)
    (case aN2 => k_is)
    (case nN2 => k_is)
    (case lN2 => k_is)
    (case cN2 => k_is)
    (case kN2 => k_is)
    (case aN3 => k_is)
    (case nN3 => k_is)
    (case lN3 => k_is)
    (case cN3 => k_is)
    (case kN3 => k_is)
    (case aN4 => k_is)
    (case nN4 => k_is)
    (case lN4 => k_is)
    (case cN4 => k_is)
    (case kN4 => k_is)
    (case aN5 => k_is)
    (case nN5 => k_is)
    (case lN5 => k_is)
    (case cN5 => k_is)
    (case kN5 => k_is)
    (case aN6 => k_is)
    (case nN6 => k_is)
    (case lN6 => k_is)
    (case cN6 => k_is)
    (case kN6 => k_is)
    (case uU => k_is)
    (case uMM => k_is)
    (case uNL => k_is)
    (case hD => refine' Un.cx0 ?a1 ?a2 ?a3 ?a4 ?a5 ?a6 ?a7 ?a8 ?a9 ?b1 ?b2 ?b3 ?b4; (case a1 => k_is); (case a2 => k_is); (case a3 => k_is); (case a4 => k_is); (case a5 => k_is); (case a6 => k_is); (case a7 => k_is); (case a8 => k_is); (case a9 => k_is); (case b1 => k_is); (case b2 => k_is); (case b3 => k_is); (case b4 => k_is))
    (case noD_at => k_is)
    (case noD_word => k_is)
    (case noD_name => k_is)
    (case noD_piece => k_is)
    (case noD_subject => k_is)
    (case noD_most => k_is)
    (case noD_place => k_is)
    (case exD => first | k_is | exact rfl | kernel_rfl)
    (case hU => refine' Un.cx0 ?a1 ?a2 ?a3 ?a4 ?a5 ?a6 ?a7 ?a8 ?a9 ?b1 ?b2 ?b3 ?b4; (case a1 => k_is); (case a2 => k_is); (case a3 => k_is); (case a4 => k_is); (case a5 => k_is); (case a6 => k_is); (case a7 => k_is); (case a8 => k_is); (case a9 => k_is); (case b1 => k_is); (case b2 => k_is); (case b3 => k_is); (case b4 => k_is))
    (case noU_at => k_is)
    (case noU_word => k_is)
    (case noU_name => k_is)
    (case noU_piece => k_is)
    (case noU_subject => k_is)
    (case noU_most => k_is)
    (case noU_place => k_is)
    (case exU => first | k_is | exact rfl | kernel_rfl)
    (case hT => refine' Un.cx0 ?a1 ?a2 ?a3 ?a4 ?a5 ?a6 ?a7 ?a8 ?a9 ?b1 ?b2 ?b3 ?b4; (case a1 => k_is); (case a2 => k_is); (case a3 => k_is); (case a4 => k_is); (case a5 => k_is); (case a6 => k_is); (case a7 => k_is); (case a8 => k_is); (case a9 => k_is); (case b1 => k_is); (case b2 => k_is); (case b3 => k_is); (case b4 => k_is))
    (case noT_at => k_is)
    (case noT_word => k_is)
    (case noT_name => k_is)
    (case noT_piece => k_is)
    (case noT_subject => k_is)
    (case noT_most => k_is)
    (case noT_place => k_is)
    (case exT => first | k_is | exact rfl | kernel_rfl)
    (case hK => refine' Un.cx0 ?a1 ?a2 ?a3 ?a4 ?a5 ?a6 ?a7 ?a8 ?a9 ?b1 ?b2 ?b3 ?b4; (case a1 => k_is); (case a2 => k_is); (case a3 => k_is); (case a4 => k_is); (case a5 => k_is); (case a6 => k_is); (case a7 => k_is); (case a8 => k_is); (case a9 => k_is); (case b1 => k_is); (case b2 => k_is); (case b3 => k_is); (case b4 => k_is))
    (case noK_at => k_is)
    (case noK_word => k_is)
    (case noK_name => k_is)
    (case noK_piece => k_is)
    (case noK_subject => k_is)
    (case noK_most => k_is)
    (case noK_place => k_is)
    (case exK => first | k_is | exact rfl | kernel_rfl)
    (case hR => refine' Un.cx0 ?a1 ?a2 ?a3 ?a4 ?a5 ?a6 ?a7 ?a8 ?a9 ?b1 ?b2 ?b3 ?b4; (case a1 => k_is); (case a2 => k_is); (case a3 => k_is); (case a4 => k_is); (case a5 => k_is); (case a6 => k_is); (case a7 => k_is); (case a8 => k_is); (case a9 => k_is); (case b1 => k_is); (case b2 => k_is); (case b3 => k_is); (case b4 => k_is))
    (case noR_at => k_is)
    (case noR_word => k_is)
    (case noR_name => k_is)
    (case noR_piece => k_is)
    (case noR_subject => k_is)
    (case noR_most => k_is)
    (case noR_place => k_is)
    (case exR => first | k_is | exact rfl | kernel_rfl)
    (case hP => refine' Un.cx0 ?a1 ?a2 ?a3 ?a4 ?a5 ?a6 ?a7 ?a8 ?a9 ?b1 ?b2 ?b3 ?b4; (case a1 => k_is); (case a2 => k_is); (case a3 => k_is); (case a4 => k_is); (case a5 => k_is); (case a6 => k_is); (case a7 => k_is); (case a8 => k_is); (case a9 => k_is); (case b1 => k_is); (case b2 => k_is); (case b3 => k_is); (case b4 => k_is))
    (case noP_at => k_is)
    (case noP_word => k_is)
    (case noP_name => k_is)
    (case noP_piece => k_is)
    (case noP_subject => k_is)
    (case noP_most => k_is)
    (case noP_place => k_is)
    (case exP => first | k_is | exact rfl | kernel_rfl)
    (case hO => refine' Un.cx0 ?a1 ?a2 ?a3 ?a4 ?a5 ?a6 ?a7 ?a8 ?a9 ?b1 ?b2 ?b3 ?b4; (case a1 => k_is); (case a2 => k_is); (case a3 => k_is); (case a4 => k_is); (case a5 => k_is); (case a6 => k_is); (case a7 => k_is); (case a8 => k_is); (case a9 => k_is); (case b1 => k_is); (case b2 => k_is); (case b3 => k_is); (case b4 => k_is))
    (case noO_at => k_is)
    (case noO_word => k_is)
    (case noO_name => k_is)
    (case noO_piece => k_is)
    (case noO_subject => k_is)
    (case noO_most => k_is)
    (case noO_place => k_is)
    (case exO => first | k_is | exact rfl | kernel_rfl)
    (case hV => refine' Un.cx0 ?a1 ?a2 ?a3 ?a4 ?a5 ?a6 ?a7 ?a8 ?a9 ?b1 ?b2 ?b3 ?b4; (case a1 => k_is); (case a2 => k_is); (case a3 => k_is); (case a4 => k_is); (case a5 => k_is); (case a6 => k_is); (case a7 => k_is); (case a8 => k_is); (case a9 => k_is); (case b1 => k_is); (case b2 => k_is); (case b3 => k_is); (case b4 => k_is))
    (case noV_at => k_is)
    (case noV_word => k_is)
    (case noV_name => k_is)
    (case noV_piece => k_is)
    (case noV_subject => k_is)
    (case noV_most => k_is)
    (case noV_place => k_is)
    (case exV => first | k_is | exact rfl | kernel_rfl)
    (case hI => refine' Un.cx0 ?a1 ?a2 ?a3 ?a4 ?a5 ?a6 ?a7 ?a8 ?a9 ?b1 ?b2 ?b3 ?b4; (case a1 => k_is); (case a2 => k_is); (case a3 => k_is); (case a4 => k_is); (case a5 => k_is); (case a6 => k_is); (case a7 => k_is); (case a8 => k_is); (case a9 => k_is); (case b1 => k_is); (case b2 => k_is); (case b3 => k_is); (case b4 => k_is))
    (case noI_at => k_is)
    (case noI_word => k_is)
    (case noI_name => k_is)
    (case noI_piece => k_is)
    (case noI_subject => k_is)
    (case noI_most => k_is)
    (case noI_place => k_is)
    (case exI => first | k_is | exact rfl | kernel_rfl)
