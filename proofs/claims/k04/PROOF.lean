import PyProof.Rows.All
import Wide.All
import OpenK.AllK
import Wide.FinOn
import KE.KSuper
import HandS.ForMost
import HandS.IsInst
import HandS.Flow
import HandS.Zip
import HandS.Defaults
import HandS.Codes
import HandS.ExcValue
import HandS.ClsMeth
import HandS.Nested
import HandS.MakeKwOnly
import HandS.Star
import HandS.Walk
import HandS.SortKw
import HandS.SortOrd
import HandS.SortRule
import HandS.TupSets
import KE.KDictCopyH
import HandS.Property
import HandS.DictComp
import HandS.Conv
import HandS.More
import HandS.StrMore
import HandS.Text
import KE.GoesMore
import PyProof.EnumFor
import PyProof.WalksMore
import HandS.ExcInit
import HandS.ExcField
import KE.KExcIs
import KE.KExcInit
import HandS.HotCalls
import HandS.Lambda
import HandS.TryOnly
import HandS.TupAny
import HandS.WideBits
import HandS.Gcd
import HandS.Wide
import HandS.Deep
import PyProof.P3Eq
import HandS.RevTup
import HandS.MapObj
import HandS.FStr
import HandS.FStrTup
import HandS.Ends
import HandS.WordsExc
import HandS.EndTab
import HandS.MakeKw
import KE.KLam
import KE.KNestM
import PySem.Challenge.RW_unopened_k04_series_refused
set_option Elab.async false
set_option linter.all false
set_option maxRecDepth 100000
set_option maxHeartbeats 4000000
namespace SupX
open PySem PySem.Spec PyProof.Rows L2 NdefX
/-! a body that is known to be the activation itself: super() is asked there alone -/
structure PEa (X : Cx) (B : List Stmt) (e : Expr) (t : TE) : Prop where
  run : ∀ (pins : List (Addr × Obj)) (s : Shared) (σ : L2.St) (H : Hp) (Q : VK), Inv X pins σ H s → t σ H Q → _root_.PySem.wpAt (model X.prog X.w) X.A (.func B X.env) (eval e X.env) (EP X pins σ Q) X.xe s
structure PSa (X : Cx) (B : List Stmt) (st : Stmt) (t : TS) : Prop where
  run : ∀ (pins : List (Addr × Obj)) (s : Shared) (σ : L2.St) (H : Hp) (D : Ends), Inv X pins σ H s → t D σ H → _root_.PySem.wpAt (model X.prog X.w) X.A (.func B X.env) (exec st X.env) (SP X pins D) X.xe s
structure PSsa (X : Cx) (B : List Stmt) (st : List Stmt) (t : TS) : Prop where
  run : ∀ (pins : List (Addr × Obj)) (s : Shared) (σ : L2.St) (H : Hp) (D : Ends), Inv X pins σ H s → t D σ H → _root_.PySem.wpAt (model X.prog X.w) X.A (.func B X.env) (execs st X.env) (SP X pins D) X.xe s
section
variable {X : Cx} {B : List Stmt} {e : Expr} {te : TE} {st : Stmt} {rest : List Stmt} {t u : TS} {pos : Pos}
theorem PE.at_ (h : PE X e te) : PEa X B e te := ⟨fun pins s σ H Q I q => wpAt_of_wpAny (h.run pins s σ H Q I q)⟩
theorem PS.at_ (h : PS X st t) : PSa X B st t := ⟨fun pins s σ H D I q => wpAt_of_wpAny (h.run pins s σ H D I q)⟩
theorem PSs.at_ (h : PSs X rest t) : PSsa X B rest t := ⟨fun pins s σ H D I q => wpAt_of_wpAny (h.run pins s σ H D I q)⟩
theorem psa_ret (he : PEa X B e te) : PSa X B (.Return (some e) pos) (tRet te) := by
  refine ⟨fun pins s σ H D I h => ?_⟩
  exact ks_wpAt_Return_some (ks_wpAt_mono (he.run pins s σ H _ I h) (fun v s1 ⟨x, H1, I1, r1, q1⟩ => ⟨x, σ, H1, I1, r1, q1⟩) fun _ _ z => z)
theorem psa_expr (he : PEa X B e te) (hs : swapsWith e none pos.line X.env = pure false := by rfl) : PSa X B (.Expr e pos) (tDrop te) := by
  refine ⟨fun pins s σ H D I h => ?_⟩
  exact ks_wpAt_Expr_any (ks_wpAt_mono (he.run pins s σ H _ I h) (fun v s1 ⟨x, H1, I1, r1, q1⟩ => ⟨σ, H1, I1, q1⟩) fun _ _ z => z) I.quiet hs
theorem psa_if {c : Expr} {a b : List Stmt} {tc : TT} (hc : PT X c tc) (ha : PSsa X B a t) (hb : PSsa X B b u) : PSa X B (.If c a b pos) (tIfS tc t u) := by
  refine ⟨fun pins s σ H D I h => ?_⟩
  refine ks_wpAt_If (ks_wpAt_mono (wpAt_of_wpAny (hc.run pins s σ H _ I h)) (fun d s1 ⟨H1, I1, q1⟩ => ?_) fun _ _ z => z)
  cases d with
  | true => exact ha.run pins s1 σ H1 D I1 q1
  | false => exact hb.run pins s1 σ H1 D I1 q1
theorem pssa_cons (h1 : PSa X B st t) (h2 : PSsa X B rest u) : PSsa X B (st :: rest) (tSeq t u) := by
  refine ⟨fun pins s σ H D I h => ?_⟩
  refine ks_wpAt_execs_cons (ks_wpAt_mono (h1.run pins s σ H { D with nx := u D } I h) (fun f s1 q => ?_) fun _ _ z => z)
  cases f with
  | next =>
    obtain ⟨σ', H', I', q⟩ := q
    exact h2.run pins s1 σ' H' D I' q
  | ret v => exact q
  | brk => exact q
  | cont => exact q
theorem pssa_one (h1 : PSa X B st t) : PSsa X B [st] t := by
  refine ⟨fun pins s σ H D I h => ?_⟩
  refine ks_wpAt_execs_cons (ks_wpAt_mono (h1.run pins s σ H D I h) (fun f s1 q => ?_) fun _ _ z => z)
  cases f with
  | next => exact wpAt_of_wpAny (wpAny_execs_nil q)
  | ret v => exact q
  | brk => exact q
  | cont => exact q
theorem pea_un {op : UnaryOp} {r : V → Hp → VK → Prop} {a : Expr} {ta : TE} (ho : UnR X (unaryOp op) r) (ha : PEa X B a ta) : PEa X B (.UnaryOp op a pos) (tUn r ta) := by
  refine ⟨fun pins s σ H Q I h => ?_⟩
  rw [eval_UnaryOp]
  exact _root_.PySem.wpAt_bind (ks_wpAt_mono (ha.run pins s σ H _ I h) (fun v s1 ⟨x, H1, I1, r1, q1⟩ => wpAt_of_wpAny (wpAny_bind (wpAny_standAt (wpAny_holding (ho pins s1 σ H1 x v Q I1 r1 q1))))) fun _ _ z => z)
end

/-! ### the rule for a def that closes over __class__ -/
abbrev clsCells (cc : Addr) : List (Str × Addr) := [("__class__", cc)]
section
variable {CX : CXT} {P : Program} {w : World} {K : PySem.W.Frag} {mg : Str → Option Value} {base : Heap} {k : Nat} {f cc cda D : Addr} {name qual : Str} {params : Arguments} {body : List Stmt} {scope : Scope} {dV kV doc pm ct oc : Value} {an od : Option Addr}
    {osl : Array (Option Value)} {N ps : List Str} {sp : Sp}
theorem fn_ofC (lk : K.lookup f = some ⟨oc, od, .func (PySem.W.fnX name qual params body scope (clsCells cc) dV kV doc pm an (.ref cda) ct), osl⟩) (hcd : PySem.W.codeIn K (.ref cda) qual = true)
    (hcc : ∃ (o : Obj), K.lookup cc = some o ∧ o.data = .cell (some (.ref D))) (S : NScope N ps ["__class__"] scope) (len : ∀ vs H Q E, sp vs H Q E → vs.length = ps.length)
    (hbody : ∀ (A : Around) (outer : List Env) (s : Shared) (H : Hp) (vs : List V) (Q : VK) (E : XK), Room k (A.deeper (envF ⟨name, qual, params, body, scope, clsCells cc, cda⟩ f s.heap.objs.size)) → sp vs H Q E →
      ∃ t, PSsa (ncx CX P w K mg base N ⟨name, qual, params, body, scope, clsCells cc, cda⟩ f A outer s H E) body body t ∧ t { nx := fun _ H' => Q .non H', rt := Q } (startF N vs [none]) H) :
    FnOk P w K mg base CX (k + 1) f (PySem.W.fnX name qual params body scope (clsCells cc) dV kV doc pm an (.ref cda) ct) ps sp := by
  refine ⟨len, fun A outer s H args us vs Q E hr e0 hb r hsp => ?_⟩
  have hl := len _ _ _ _ hsp
  have KX : K.In s.heap := e0.mod.kin.keeps fun b o e => (e0.bs b o e).1
  have lim : s.heap.NoLimit := e0.mod.nolimit.keeps fun b o e => (e0.bs b o e).1
  refine codeAny_call_function hr.depth (KX _ _ lk) rfl S.co S.gen rfl (PySem.W.codeRec_of KX hcd) (hb _ _ _ _ ?_)
  refine wpAny_newFunctionEnv S.nocell (fun ⟨n, _⟩ hy => S.par n (List.of_mem_zip hy).1) (fun h₁ hns hsb => ⟨lim.fresh _ hsb, ?_⟩) S.kind
  show codeAny _ _ (.func body (envF ⟨name, qual, params, body, scope, clsCells cc, cda⟩ f s.heap.objs.size)) _ _
  refine ks_codeAny_funcAt ?_
  have kp : ∀ b o, s.heap.get? b = some o → h₁.get? b = some o := fun b o e => hsb.extBut b o (Nat.ne_of_lt (Heap.lt_size e)) (Heap.get?_push_of_some _ e)
  obtain ⟨t, ht, hq⟩ := hbody A outer s H vs Q E (hr.deeper _) hsp
  have C : CellsAt (clsCells cc) ["__class__"] [none] s.heap H := by
    obtain ⟨o, lo, od⟩ := hcc
    have hin := e0.mod.kin
    have hg : base.get? cc = some o := hin _ _ lo
    obtain ⟨b1, b2⟩ := e0.bs cc o hg
    have hlook : ∀ y c, (clsCells cc).lookup y = some c → c = cc ∧ y = "__class__" := fun y c e => by
      unfold clsCells at e
      rw [List.lookup_cons] at e
      split at e
      · rename_i h
        cases e
        exact ⟨rfl, eq_of_beq h⟩
      · cases e
    refine ⟨rfl, fun y c e => ?_, fun x y c e1 e2 => ?_, fun i y e => ?_⟩
    · obtain ⟨rfl, _⟩ := hlook y c e
      exact ⟨b2, _, o, b1, od⟩
    · rw [(hlook x c e1).2, (hlook y c e2).2]
    · match i, e with
      | 0, e =>
        cases e
        exact ⟨cc, rfl, fun v z => by cases z⟩
  have I : Inv (ncx CX P w K mg base N ⟨name, qual, params, body, scope, clsCells cc, cda⟩ f A outer s H E) [] (startF N vs [none]) H { s with heap := h₁, toks := s.toks + (ps.zip us).length } := inv_startN S hr.hd e0 hl r C hns kp
  refine ks_wpAt_mono (ht.run [] _ (startF N vs [none]) H _ I hq) (fun fl s' hs => ?_) fun e s' hs => hs
  have fin : ∀ {σ' : L2.St} {H' : Hp} {v : V} {u : Value}, Inv (ncx CX P w K mg base N ⟨name, qual, params, body, scope, clsCells cc, cda⟩ f A outer s H E) [] σ' H' s' → L2.RelV v u → Q v H' → CE outer P w H s Q u s' :=
    fun {σ' H' v u} J rv q => ⟨v, H', J.os, J.bare, J.base, J.hok, rv, q⟩
  cases fl with
  | ret u =>
    obtain ⟨v, σ', H', J, rv, q⟩ := hs
    exact fin J rv q
  | next =>
    obtain ⟨σ', H', J, q⟩ := hs
    exact fin (v := V.non) (u := Value.none) J rfl q
  | brk =>
    obtain ⟨_, _, _, q⟩ := hs
    exact False.elim q
  | cont =>
    obtain ⟨_, _, _, q⟩ := hs
    exact False.elim q
end

/-! ### super().m(e, .., k = v, ..) -/
/-- what of the text and of the context super() asks -/
structure SupC (X : Cx) (f cda cc D : Addr) (sf : Str) : Prop where
  hks : X.env.kindOf "super" = some .globalImplicit
  hkc : X.env.kindOf "__class__" = some .free
  fu : X.env.func = some f
  co : X.env.code = .ref cda
  fdd : ∃ (o : Obj) (fd : FuncData) (ar : Arg), X.K.lookup f = some o ∧ o.data = .func fd ∧ (fd.params.posonlyargs ++ fd.params.args).head? = some ar ∧ ar.arg = sf
  nm : X.N[0]? = some sf
  ka : X.env.kindOf sf = some .local
  code : ∃ (o : Obj) (vs : Array Value) (file : Str) (tf : Tok), X.K.lookup cda = some o ∧ o.data = .fields vs ∧ vs[2]? = some (.str file tf) ∧ (X.prog.main.file == file) = true
  cell : ∃ (o : Obj), X.K.lookup cc = some o ∧ o.data = .cell (some (.ref D))
  lk : X.env.cells.lookup ("__class__" : Str) = some cc
  cls : ∃ cd, PySem.W.clsIn X.K D = some cd
  top : (X.prog.main.scope.names.lookup ("super" : Str)).isSome = false
  ms : X.mg "super" = none
  any_ : PySem.W.nsIn X.K cStatics "thirdparty.any" = some none
/-- the method m above D, of an instance of C -/
structure SupM (K : PySem.W.Frag) (C D : Addr) (m : Str) (g : Addr) : Prop where
  sub : PySem.W.mroIn K C (.ref D) = some true
  at_ : PySem.W.ks_superIn K C D m = some (some (.ref g))
  ty : PySem.W.typeIn K (.ref g) = some (.type "function")
  fi : PySem.W.fnIn K g = true
section
variable {X : Cx} {pins : List (Addr × Obj)} {σ : L2.St} {H : Hp} {s : Shared} {a C dx : Addr} {fs : List (Str × V)} {f cda cc D : Addr} {sf : Str} {B : List Stmt}
/-- super() -/
theorem base_super {p0 p1 : Pos} {attr : Str} {whole : Sem Value} {Q : Value → Shared → Prop} (S : SupC X f cda cc D sf) (I : Inv X pins σ H s) (hσ : σ[0]? = some (some (.ref a))) (e : H a = some (.ins C dx fs)) (sub : PySem.W.mroIn X.K C (.ref D) = some true)
    (hat : (attr == ("__class__" : Str)) = false) (h : ∀ so s', Inv X ((so, PySem.W.ks_superObj D a C) :: pins) σ H s' → Q (.ref so) s') :
    _root_.PySem.wpAt (model X.prog X.w) X.A (.func B X.env) (attributeBase (.Call (.Name "super" p0) [] [] p1) attr X.env whole) Q X.xe s := by
  have KX := I.kIn
  obtain ⟨of, fd, ar, l1, l2, l3, rfl⟩ := S.fdd
  obtain ⟨oc, vs, file, tf, c1, c2, c3, c4⟩ := S.code
  obtain ⟨ocl, cl1, cl2⟩ := S.cell
  obtain ⟨cd, hcd⟩ := S.cls
  obtain ⟨oD, hD1, hD2⟩ : ∃ oD, s.heap.get? D = some oD ∧ oD.data = .cls cd := by
    have hcd := hcd
    unfold PySem.W.clsIn at hcd
    split at hcd
    · rename_i c d cd' sl ho
      cases hcd
      exact ⟨_, KX _ _ ho, rfl⟩
    · cases hcd
  refine ks_wpAt_super_base (env := X.env) S.hks S.hkc hat S.fu (KX _ _ l1) l2 l3 S.co (KX _ _ c1) c2 c3 c4 S.top ?_
  obtain ⟨mb, b1, b2⟩ := I.mod.blt
  refine PySem.W.ks_loadName_global I.ok.kind S.hks (Calls.loadGlobal_builtin (by rw [I.ok.glob]; exact I.mod.glob.keeps I.bk) S.ms (by rw [I.ok.blt]; exact b1.keeps I.bk) ((b2 _ (by decide +kernel)).trans (by first | rfl | kernel_rfl | decide +kernel)) ⟨rfl, ?_⟩)
  refine wpAny_loadName_free I.ok.kind S.hkc S.lk ⟨_, KX _ _ cl1, cl2⟩ ?_
  obtain ⟨m, hn, hl⟩ := I.loc
  obtain ⟨u, r, l⟩ := hl 0 _ _ S.nm hσ (.inl S.ka)
  obtain rfl : u = Value.ref a := r
  rcases l with ⟨hk, hm⟩ | ⟨hk, c, hc, hcell⟩
  case inr =>
    rw [S.ka] at hk
    rcases hk with hk | hk <;> cases hk
  refine wpAny_loadName_local I.ok.kind S.ka hn hm ?_
  refine ks_wpAny_isType_cls hD1 hD2 ⟨rfl, ?_⟩
  obtain ⟨mA, O, _, _, _, _⟩ := ins_get I.hok e
  obtain ⟨od, J, _⟩ := O.look
  obtain ⟨hh, g, d, t, os⟩ := s
  refine ks_wpAny_call_super hD1 hD2 J.at_ J.cls (fun c e => ?_) (PySem.W.looks_mroIn KX sub) (fun h' e k => ?_)
  · have := J.no
    unfold PySem.W.notCls at this
    rw [e] at this
    exact Bool.noConfusion this
  · exact h _ _ (ClX.pin_new I k (Nat.le_refl _) e (fun v z => nomatch z))
/-- .m of it: a bound method, new -/
theorem meth_super {so : Addr} {m : Str} {g : Addr} {pl : Sem Bool} {E : Value → Shared → Prop} {A : Around} {Q : Value × List Value → Shared → Prop} (I : Inv X ((so, PySem.W.ks_superObj D a C) :: pins) σ H s) (e : H a = some (.ins C dx fs)) (ha : PySem.W.nsIn X.K cStatics "thirdparty.any" = some none)
    (M : SupM X.K C D m g) (hn : (m == ("__class__" : Str)) = false) (h : ∀ q s', Inv X ((q, PySem.W.methodObj (.ref g) (.ref a)) :: pins) σ H s' → X.base.get? q = none → Q (.ref q, []) s') :
    wpAny (model X.prog X.w) A (getMethod (.ref so) m pl) Q E s := by
  have KX := I.kIn
  have hso := ClX.pin_at I
  have I0 := ClX.unpin I
  obtain ⟨mA, O, _, _, _, _⟩ := ins_get I.hok e
  obtain ⟨od, J, _⟩ := O.look
  have hb := ClX.base_none I0 (Nat.le_refl _)
  obtain ⟨hh, gg, d, t, os⟩ := s
  have hm := M.at_
  have ht := M.ty
  cases hc : PySem.W.clsIn X.K C with
  | none => unfold PySem.W.ks_superIn at hm; rw [hc] at hm; cases hm
  | some cd =>
    unfold PySem.W.ks_superIn at hm
    rw [hc] at hm
    obtain ⟨of, hof, hofc⟩ : ∃ of, hh.get? g = some of ∧ of.cls = .type "function" := by
      have ht' : (X.K.lookup g).map (·.cls) = some (.type "function") := ht
      cases z : X.K.lookup g with
      | none => rw [z] at ht'; cases ht'
      | some of => rw [z] at ht'; exact ⟨of, KX _ _ z, Option.some.inj ht'⟩
    refine ks_wpAny_getMethod_super hso (PySem.W.looks_opaque KX ha) (l₀ := cd.mro) ?_ rfl KX hm hof hofc (PySem.W.ks_ne KX J hc) hn ?_
    · exact fun A Q E s k q => wpAny_bind ((PySem.W.looks_clsIn KX hc) A _ E s k (wpAny_pure q))
    · exact h _ _ (ClX.pin_new I0 (fun _ _ z => Heap.get?_push_of_some _ z) (Nat.le_refl _) (Heap.get?_push_at rfl rfl) (fun v z => nomatch z)) hb
end
/-- super().m(e, ..), self in the first slot -/
def tSup (C : Addr) (sp : Sp) (E : XK) (t : TA) : TE := fun σ H Q => ∃ a dx fs, σ[0]? = some (some (.ref a)) ∧ H a = some (.ins C dx fs) ∧ t σ H fun vs H1 => sp (.ref a :: vs) H1 Q E
/-- super().m(e, .., k = v, ..) -/
def tSupK (C : Addr) (n m : Nat) (sp : Sp) (gV : List V → List V → List V) (E : XK) (t tk : TA) : TE := fun σ H Q => ∃ a dx fs, σ[0]? = some (some (.ref a)) ∧ H a = some (.ins C dx fs) ∧ t σ H fun vs H1 => tk σ H1 fun zs H2 => vs.length = n ∧ zs.length = m ∧ sp (gV (.ref a :: vs) zs) H2 Q E
section
variable {X : Cx} {CX : CXT} {k n : Nat} {C D f g cda cc : Addr} {sf m : Str} {fd : FuncData} {ps ks : List Str} {sp : Sp} {E : XK} {B : List Stmt} {p0 p1 apos pos : Pos} {e : Expr} {es : List Expr} {kws : List Keyword} {t tk : TA} {gg : List Value → List Value → List Value} {gV : List V → List V → List V} {pl : Sem Bool}
theorem pea_super (S : SupC X f cda cc D sf) (M : SupM X.K C D m g) (F : FnOk X.prog X.w X.K X.mg X.base CX k g fd ps sp) (hr : Room k X.A) (hb : Binds X.K fd ps []) (hx : Passes CX X E) (ha : PA X (e :: es) t)
    (hn : (m == ("__class__" : Str)) = false := by decide) (hst : starEach (e :: es) X.env = (false, eval e X.env) :: starEach es X.env := by rfl) (hpl : (backTo pos (starEach es X.env)).any (·.1) = false := by rfl)
    (ht : eval (.Call (.Attribute (.Call (.Name "super" p0) [] [] p1) m apos) (e :: es) [] pos) X.env = (do
      let ov ← attributeBase (.Call (.Name "super" p0) [] [] p1) m X.env (eval (.Call (.Name "super" p0) [] [] p1) X.env)
      standAt apos.atName
      let (f, first) ← holding [ov] (getMethod ov m pl)
      callWith pos f first (backTo pos (starEach (e :: es) X.env)) []) := by rfl) :
    PEa X B (.Call (.Attribute (.Call (.Name "super" p0) [] [] p1) m apos) (e :: es) [] pos) (tSup C sp E t) := by
  refine ⟨fun pins s σ H Q I ⟨a, dx, fs, h1, h2, h3⟩ => ?_⟩
  refine ks_wpAt_MethodCall (pl := pl) (base_super S I h1 h2 M.sub hn fun so s1 I1 => ?_) ht
  refine meth_super I1 h2 S.any_ M hn fun q s2 I2 hbq => ?_
  refine ClX.callwith_cm I2 hbq M.fi (thn (ha.run pos _ s2 σ H _ I2 h3) fun us s3 ⟨vs, H2, I3, rv, q2⟩ => ⟨⟨ClX.pin_at I3, I3.kIn⟩, ?_⟩) hst hpl
  have z : wpAny (model X.prog X.w) X.A (call (.ref q) us) (EP X ((q, PySem.W.methodObj (.ref g) (.ref a)) :: pins) σ Q) X.xe s3 := by
    have hl : (Value.ref a :: us).length = ps.length := by
      have := F.len _ _ _ _ q2
      rw [List.length_cons] at this ⊢
      rw [← rv.length]
      exact this
    have hbb := hb s3 (.ref a :: us) I3.kIn (by rw [List.append_nil]; exact hl)
    rw [List.append_nil] at hbb
    refine wpAny_call (PySem.W.method_call (ClX.pin_at I3) (codeAny_mono (F.run X.A X.stack s3 H2 ⟨.ref a :: us, []⟩ (.ref a :: us) (.ref a :: vs) Q E hr I3.env0 hbb (.cons rfl rv) q2) fun r s' hq => ?_))
    cases r with
    | error e => exact hx _ σ H2 s3 e s' I3 hq
    | ok fl =>
      cases fl with
      | ret u => exact I3.after hq
      | next => exact False.elim hq
      | brk => exact False.elim hq
      | cont => exact False.elim hq
  exact thn z fun _ _ y => ClX.unpinE y
theorem pea_superK (S : SupC X f cda cc D sf) (M : SupM X.K C D m g) (F : FnOk X.prog X.w X.K X.mg X.base CX k g fd ps sp) (hr : Room k X.A) (hb : KBn X.K fd ps (n + 1) ks gg gV) (hx : Passes CX X E) (ha : PA X (e :: es) t) (hkw : PK X kws tk)
    (hn : (m == ("__class__" : Str)) = false := by decide) (hall : (backToKw pos (keywordEach kws X.env)).all (·.1.isSome) = true := by rfl) (hks : (backToKw pos (keywordEach kws X.env)).filterMap (·.1) = ks := by rfl)
    (hst : starEach (e :: es) X.env = (false, eval e X.env) :: starEach es X.env := by rfl) (hpl : ((backTo pos (starEach (e :: es) X.env)).any (·.1) || (backToKw pos (keywordEach kws X.env)).any (·.1.isNone)) = false := by rfl)
    (ht : eval (.Call (.Attribute (.Call (.Name "super" p0) [] [] p1) m apos) (e :: es) kws pos) X.env = (do
      let ov ← attributeBase (.Call (.Name "super" p0) [] [] p1) m X.env (eval (.Call (.Name "super" p0) [] [] p1) X.env)
      standAt apos.atName
      let (f, first) ← holding [ov] (getMethod ov m pl)
      callWith pos f first (backTo pos (starEach (e :: es) X.env)) (backToKw pos (keywordEach kws X.env))) := by rfl) :
    PEa X B (.Call (.Attribute (.Call (.Name "super" p0) [] [] p1) m apos) (e :: es) kws pos) (tSupK C n ks.length sp gV E t tk) := by
  refine ⟨fun pins s σ H Q I ⟨a, dx, fs, h1, h2, h3⟩ => ?_⟩
  rw [ht]
  refine _root_.PySem.wpAt_bind (base_super S I h1 h2 M.sub hn fun so s1 I1 => wpAt_of_wpAny (wpAny_bind (wpAny_standAt (wpAny_bind (wpAny_holding ?_)))))
  refine meth_super I1 h2 S.any_ M hn fun q s2 I2 hbq => ?_
  show wpAny _ _ (callWith pos (.ref q) [] _ _) _ _ _
  refine PySem.W.callWith_of (P := PySem.W.MethP X.K q g (.ref a)) hpl (PySem.W.keeps_M M.fi) (evalArgs_kw2 hall (thn (ha.run pos _ s2 σ H _ I2 h3) fun us s3 ⟨vs, H1, I3, rv, q2⟩ => thn (hkw.run pos _ s3 σ H1 _ I3 q2) fun ws s4 ⟨zs, H2, I4, rz, l1, l2, q3⟩ => ⟨⟨ClX.pin_at I4, I4.kIn⟩, ?_⟩) hst)
  rw [hks]
  have z : wpAny (model X.prog X.w) X.A (call (.ref q) us (ks.zip ws)) (EP X ((q, PySem.W.methodObj (.ref g) (.ref a)) :: pins) σ Q) X.xe s4 := by
    have r1 : Vals (V.ref a :: vs) (Value.ref a :: us) := .cons rfl rv
    have r2 := hb.rel r1 rz
    have hbb := hb.to s4 (.ref a :: us) ws I4.kIn (by rw [List.length_cons, ← rv.length, l1]) (rz.length.symm.trans l2)
    refine wpAny_call (ks_codeAny_call_bound (ClX.pin_at I4) (codeAny_mono (F.run X.A X.stack s4 H2 ⟨.ref a :: us, ks.zip ws⟩ (gg (.ref a :: us) ws) (gV (.ref a :: vs) zs) Q E hr I4.env0 hbb r2 q3) fun r s' hq => ?_))
    cases r with
    | error e => exact hx _ σ H2 s4 e s' I4 hq
    | ok fl =>
      cases fl with
      | ret u => exact I4.after hq
      | next => exact False.elim hq
      | brk => exact False.elim hq
      | cont => exact False.elim hq
  exact thn z fun _ _ y => ClX.unpinE y
end
/-! ### o.m(k = v, ..), f(k = v, ..) where f is an instance -/
/-- o.m(k = v, ..) -/
def tMethKw (C : Addr) (m : Str) (n : Nat) (sp : Sp) (gV : List V → List V → List V) (E : XK) (ta : TE) (tk : TA) : TE := fun σ H Q => ta σ H fun x H1 => ∃ a dx fs, x = .ref a ∧ H1 a = some (.ins C dx fs) ∧ fs.lookup m = none ∧ tk σ H1 fun zs H2 => zs.length = n ∧ sp (gV [.ref a] zs) H2 Q E
/-- f(k = v, ..) -/
def tCallOKw (X : Cx) (C : Addr) (n : Nat) (sp : Sp) (gV : List V → List V → List V) (E : XK) (tf : TE) (tk : TA) : TE := fun σ H Q => tf σ H fun y H1 => ∃ a, y = V.ref a ∧ tk σ H1 fun zs H2 => zs.length = n ∧ StX.InsC X H2 a C ∧ sp (gV [.ref a] zs) H2 Q E
section
variable {X : Cx} {CX : CXT} {k : Nat} {C f : Addr} {m : Str} {fd : FuncData} {ps ks : List Str} {sp : Sp} {E : XK} {o fe : Expr} {kws : List Keyword} {ta tf : TE} {tk : TA} {apos pos : Pos} {pl : Sem Bool} {gg : List Value → List Value → List Value} {gV : List V → List V → List V}
theorem pe_methKw (he : PE X o ta) (c : Cls X.K C) (hm : Meth X.K C m f) (F : FnOk X.prog X.w X.K X.mg X.base CX k f fd ps sp) (hr : Room k X.A) (hb : KBn X.K fd ps 1 ks gg gV) (hx : Passes CX X E) (hkw : PK X kws tk)
    (hall : (backToKw pos (keywordEach kws X.env)).all (·.1.isSome) = true := by rfl) (hks : (backToKw pos (keywordEach kws X.env)).filterMap (·.1) = ks := by rfl)
    (hpl : ((backTo pos (starEach [] X.env)).any (·.1) || (backToKw pos (keywordEach kws X.env)).any (·.1.isNone)) = false := by rfl)
    (ht : eval (.Call (.Attribute o m apos) [] kws pos) X.env = (do
      let ov ← eval o X.env
      standAt apos.atName
      let (f, first) ← holding [ov] (getMethod ov m pl)
      callWith pos f first (backTo pos (starEach [] X.env)) (backToKw pos (keywordEach kws X.env))) := by rfl) :
    PE X (.Call (.Attribute o m apos) [] kws pos) (tMethKw C m ks.length sp gV E ta tk) := by
  refine ⟨fun pins s σ H Q I h => ?_⟩
  refine PySem.W.methodCall_KW (pl := pl) (thn (he.run pins s σ H _ I h) fun u s1 ⟨x, H1, I1, rx, a, dx, fs, ex, ea, l, q⟩ => ?_) ht
  subst ex
  obtain rfl : u = Value.ref a := rx
  refine getmeth_ok I1 ea c hm l ?_
  refine PySem.W.callWith_KW0 (h₀ := X.base) I.ok.mod.kin hm.kp hall ?_ hpl
  refine thn (hkw.run pos pins s1 σ H1 _ I1 q) fun ws s2 ⟨zs, H2, I2, rz, l1, q2⟩ => ⟨I2.kIn, ?_⟩
  rw [hks]
  exact run_fnN (us := [.ref a]) (vs := [.ref a]) F hr hb hx I2 (.cons rfl .nil) rz rfl l1 q2
theorem callO_ofK {M : Model} {A : Around} {E : Value → Shared → Prop} {s : Shared} {a : Addr} {pos : Pos} {Q : Value → Shared → Prop} {args : List (Bool × Sem Value)} {keywords : List (Option Str × Sem Value)} (hplain : (args.any (·.1) || keywords.any (·.1.isNone)) = false)
    (h : wpAny M A (evalArgs (.ref a) true args keywords) (fun z s₁ => (∃ C ox od, PySem.W.InstAt s₁.heap a ox C od ∧ ox.data = .plain) ∧ wpAny M A (call (.ref a) ([] ++ z.pos) z.kw) Q E s₁) E s) : wpAny M A (callWith pos (.ref a) [] args keywords) Q E s := by
  unfold callWith
  refine wpAny_bind (wpAny_holding (wpAny_mono h (fun z s₁ h₁ => wpAny_bind (wpAny_standAt ?_)) fun _ _ y => y))
  obtain ⟨⟨C, ox, od, J, hd⟩, h₁⟩ := h₁
  have L := PySem.W.kco_keeper (M := M) J hd
  simp only [hplain]
  refine wpAny_bind (L.here ?_)
  have tail : ∀ {t : Sem Value}, wpAny M A t Q E s₁ → wpAny M A (t >>= fun r => holding [r] point >>= fun _ => pure r) Q E s₁ :=
    fun ht => wpAny_bind (wpAny_mono ht (fun r s₂ hr => wpAny_bind (wpAny_holding (wpAny_point (wpAny_pure hr)))) fun _ _ y => y)
  exact tail (wpAny_operateT h₁)
theorem pe_callOKw {g : Addr} (hf : PE X fe tf) (c : StX.CallO X.K C g) (F : FnOk X.prog X.w X.K X.mg X.base CX k g fd ps sp) (hr : Room k X.A) (hb : KBn X.K fd ps 1 ks gg gV) (hx : Passes CX X E) (hkw : PK X kws tk)
    (hall : (backToKw pos (keywordEach kws X.env)).all (·.1.isSome) = true := by rfl) (hks : (backToKw pos (keywordEach kws X.env)).filterMap (·.1) = ks := by rfl)
    (hpl : ((backTo pos (starEach [] X.env)).any (·.1) || (backToKw pos (keywordEach kws X.env)).any (·.1.isNone)) = false := by rfl)
    (ht : eval (.Call fe [] kws pos) X.env = (do callWith pos (← eval fe X.env) [] (backTo pos (starEach [] X.env)) (backToKw pos (keywordEach kws X.env))) := by rfl) : PE X (.Call fe [] kws pos) (tCallOKw X C ks.length sp gV E tf tk) := by
  refine ⟨fun pins s σ H Q I h => ?_⟩
  rw [ht]
  refine wpAny_bind (thn (hf.run pins s σ H _ I h) fun u s1 ⟨y, H1, I1, ry, a, ey, q⟩ => ?_)
  subst ey
  obtain rfl : u = Value.ref a := ry
  refine callO_ofK hpl (evalArgs_kw2_nil hall (thn (hkw.run pos pins s1 σ H1 _ I1 q) fun ws s2 ⟨zs, H2, I2, rz, l1, hi, q2⟩ => ?_))
  obtain ⟨ox, od, J, hd⟩ := StX.insC_at I2 hi
  refine ⟨⟨C, ox, od, J, hd⟩, ?_⟩
  rw [hks]
  have r2 := hb.rel (show Vals [V.ref a] [Value.ref a] from .cons rfl .nil) rz
  have hbb := hb.to s2 [.ref a] ws I2.kIn rfl (rz.length.symm.trans l1)
  refine wpAny_call (PySem.W.kco_code I2.kIn J hd c.at_ c.fn c.fi (codeAny_mono (F.run X.A X.stack s2 H2 ⟨[.ref a], ks.zip ws⟩ (gg [.ref a] ws) (gV [.ref a] zs) Q E hr I2.env0 hbb r2 q2) fun r s' hq => ?_))
  cases r with
  | error e => exact hx pins σ H2 s2 e s' I2 hq
  | ok fl =>
    cases fl with
    | ret u => exact I2.after hq
    | next => exact False.elim hq
    | brk => exact False.elim hq
    | cont => exact False.elim hq
end
/-! ### defs that close over __class__, with defaults -/
/-- a def that closes over __class__ (the class at D), as it stands behind the top -/
structure FunC (K : PySem.W.Frag) (P : Program) (x qual : Str) (params : Arguments) (body : List Stmt) (scope : Scope) (dvs : List V) (kws : List (Str × V)) (D f : Addr) (fd : FuncData) : Prop where
  ex : ∃ (cc cda : Addr) (oc : Value) (od : Option Addr) (dV kV doc pm : Value) (an : Option Addr) (ct : Value) (osl : Array (Option Value)),
    fd = PySem.W.fnX x qual params body scope (clsCells cc) dV kV doc pm an (.ref cda) ct ∧ K.lookup f = some ⟨oc, od, .func fd, osl⟩ ∧ PySem.W.codeIn K (.ref cda) qual = true ∧
    (∃ (o : Obj) (vs : Array Value) (file : Str) (tf : Tok), K.lookup cda = some o ∧ o.data = .fields vs ∧ vs[2]? = some (.str file tf) ∧ (P.main.file == file) = true) ∧
    (∃ (o : Obj), K.lookup cc = some o ∧ o.data = .cell (some (.ref D))) ∧ DflV K dV dvs ∧ KwdV K kV kws
  kp : PySem.W.keepIn K (.ref f) = true
  cls : ∃ cd, PySem.W.clsIn K D = some cd
  any_ : PySem.W.nsIn K cStatics "thirdparty.any" = some none
  top : (P.main.scope.names.lookup ("super" : Str)).isSome = false
section
variable {CX : CXT} {P : Program} {w : World} {K : PySem.W.Frag} {mg : Str → Option Value} {base : Heap} {k : Nat} {f D : Addr} {fd : FuncData} {x qual : Str} {params : Arguments} {body : List Stmt} {scope : Scope} {dvs : List V} {kws : List (Str × V)} {N ps : List Str} {sp : Sp}
theorem FunC.ok (F : FunC K P x qual params body scope dvs kws D f fd) (S : NScope N ps ["__class__"] scope) (ms : mg "super" = none) (s1 : scope.names.lookup ("super" : Str) = some .globalImplicit) (s2 : scope.names.lookup ("__class__" : Str) = some .free)
    {ar : Arg} (hp : (params.posonlyargs ++ params.args).head? = some ar) (hN : N[0]? = some ar.arg) (hl : scope.names.lookup ar.arg = some .local) (len : ∀ vs H Q E, sp vs H Q E → vs.length = ps.length)
    (hbody : ∀ (cc cda : Addr) (A : Around) (outer : List Env) (s : Shared) (H : Hp) (vs : List V) (Q : VK) (E : XK), Room k (A.deeper (envF ⟨x, qual, params, body, scope, clsCells cc, cda⟩ f s.heap.objs.size)) →
      SupC (ncx CX P w K mg base N ⟨x, qual, params, body, scope, clsCells cc, cda⟩ f A outer s H E) f cda cc D ar.arg → sp vs H Q E →
      ∃ t, PSsa (ncx CX P w K mg base N ⟨x, qual, params, body, scope, clsCells cc, cda⟩ f A outer s H E) body body t ∧ t { nx := fun _ H' => Q .non H', rt := Q } (startF N vs [none]) H) :
    FnOk P w K mg base CX (k + 1) f fd ps sp := by
  obtain ⟨cc, cda, oc, od, dV, kV, doc, pm, an, ct, osl, rfl, lk, hcd, hcode, hcell, _, _⟩ := F.ex
  refine fn_ofC (D := D) lk hcd hcell S len fun A outer s H vs Q E hr hsp => ?_
  exact hbody cc cda A outer s H vs Q E hr ⟨s1, s2, rfl, rfl, ⟨_, _, ar, lk, rfl, hp, rfl⟩, hN, hl, hcode, hcell, rfl, F.cls, F.top, ms, F.any_⟩ hsp
theorem FunC.binds (F : FunC K P x qual params body scope dvs kws D f fd) (n j : Nat) (hd : dvs ≠ []) (hn : n + ((dvs.length - j) + kws.length) = ps.length)
    (h : ∀ (cl : List (Str × Addr)) (T D : Addr) (doc pm : Value) (an : Option Addr) (cdv ct : Value) (us its ks : List Value), us.length = n → its.length = dvs.length → ks.length = kws.length →
      ∃ k, bindArgs (PySem.W.fnX x qual params body scope cl (.ref T) (.ref D) doc pm an cdv ct) ⟨us, []⟩ = seqItems? (.ref T) >>= k ∧ KwChain D ((kws.map (·.1)).zip ks) (k (some its.toArray)) (ps.zip (us ++ (its.drop j ++ ks))))
    (hk : kws ≠ []) : ∃ ds, Vals (dvs.drop j ++ kws.map (·.2)) ds ∧ Binds K fd ps ds := by
  obtain ⟨cc, cda, oc, od, dV, kV, doc, pm, an, ct, osl, rfl, lk, hcd, hcode, hcell, hD, hK⟩ := F.ex
  rcases hD with ⟨e, _⟩ | ⟨_, T, o, its, m, rfl, lT, oT, rT⟩
  · exact absurd e hd
  · rcases hK with e | ⟨D, rfl, hq⟩
    · exact absurd e hk
    · obtain ⟨ks, hl, rk, hks⟩ := kwd_vals hq
      refine ⟨its.drop j ++ ks, (rT.drop j).append rk, fun s us X hlen => ?_⟩
      have l1 : its.length = dvs.length := rT.length.symm
      have l2 : us.length = n := by
        rw [List.length_append, List.length_append, List.length_drop, l1, hl] at hlen
        omega
      obtain ⟨k, e1, e2⟩ := h _ T D doc pm an (.ref cda) ct us its ks l2 l1 hl
      refine BindsTo.of_looks fun M => ?_
      rw [e1]
      exact looks_items X lT oT (KwChain.looks X hks e2)
theorem FunC.kbinds (F : FunC K P x qual params body scope dvs kws D f fd) (n : Nat) (ks : List Str) (ms : List (Str × V)) (g : {α : Type} → List α → List α → List α → List α → List α) (hd : dvs ≠ []) (hk : kws ≠ []) (hms : ∀ q ∈ ms, q ∈ kws)
    (hrel : ∀ {vs ds mz zs : List V} {us its mv ws : List Value}, Vals vs us → Vals ds its → Vals mz mv → Vals zs ws → Vals (g vs ds mz zs) (g us its mv ws))
    (h : ∀ (cl : List (Str × Addr)) (T D : Addr) (doc pm : Value) (an : Option Addr) (cdv ct : Value) (us its mv ws : List Value), us.length = n → its.length = dvs.length → mv.length = ms.length → ws.length = ks.length →
      ∃ k, bindArgs (PySem.W.fnX x qual params body scope cl (.ref T) (.ref D) doc pm an cdv ct) ⟨us, ks.zip ws⟩ = seqItems? (.ref T) >>= k ∧ KwChain D ((ms.map (·.1)).zip mv) (k (some its.toArray)) (ps.zip (g us its mv ws))) :
    ∃ its mv : List Value, KBn K fd ps n ks (fun us ws => g us its mv ws) (fun vs zs => g vs dvs (ms.map (·.2)) zs) := by
  obtain ⟨cc, cda, oc, od, dV, kV, doc, pm, an, ct, osl, rfl, lk, hcd, hcode, hcell, hD, hK⟩ := F.ex
  rcases hD with ⟨e, _⟩ | ⟨_, T, o, its, m, rfl, lT, oT, rT⟩
  · exact absurd e hd
  · rcases hK with e | ⟨D, rfl, hq⟩
    · exact absurd e hk
    · obtain ⟨mv, hl, rk, hks⟩ := kwd_vals (ms := ms) fun q hm => hq q (hms q hm)
      refine ⟨its, mv, ⟨fun s us ws X l1 l2 => ?_, fun r1 r2 => hrel r1 rT rk r2⟩⟩
      obtain ⟨k, e1, e2⟩ := h _ T D doc pm an (.ref cda) ct us its mv ws l1 rT.length.symm hl l2
      refine BindsTo.of_looks fun M => ?_
      rw [e1]
      exact looks_items X lT oT (KwChain.looks X hks e2)
theorem FunC.bindsN (F : FunC K P x qual params body scope [] kws D f fd) (h : ∀ (cl : List (Str × Addr)) (kV doc pm : Value) (an : Option Addr) (cdv ct : Value) (us : List Value), us.length = ps.length → bindArgs (PySem.W.fnX x qual params body scope cl .none kV doc pm an cdv ct) ⟨us, []⟩ = pure (ps.zip us)) : Binds K fd ps [] := by
  obtain ⟨cc, cda, oc, od, dV, kV, doc, pm, an, ct, osl, rfl, lk, hcd, hcode, hcell, hD, hK⟩ := F.ex
  rcases hD with ⟨_, rfl⟩ | ⟨e, _⟩
  · exact .all (h _ kV doc pm an (.ref cda) ct)
  · exact absurd rfl e
theorem FunC.kbn (F : FunC K P x qual params body scope [] kws D f fd) (n : Nat) (ks : List Str) (g : List Value → List Value → List Value) (gV : List V → List V → List V)
    (hrel : ∀ {vs : List V} {us : List Value} {zs : List V} {ws : List Value}, Vals vs us → Vals zs ws → Vals (gV vs zs) (g us ws))
    (h : ∀ (cl : List (Str × Addr)) (kV doc pm : Value) (an : Option Addr) (cdv ct : Value) (us ws : List Value), us.length = n → ws.length = ks.length → bindArgs (PySem.W.fnX x qual params body scope cl .none kV doc pm an cdv ct) ⟨us, ks.zip ws⟩ = pure (ps.zip (g us ws))) : KBn K fd ps n ks g gV := by
  obtain ⟨cc, cda, oc, od, dV, kV, doc, pm, an, ct, osl, rfl, lk, hcd, hcode, hcell, hD, hK⟩ := F.ex
  rcases hD with ⟨_, rfl⟩ | ⟨e, _⟩
  · exact ⟨fun s us ws _ l1 l2 => BindsTo.of_eq (h _ kV doc pm an (.ref cda) ct us ws l1 l2), hrel⟩
  · exact absurd rfl e
end
/-! ### methods and calls of an instance whose class is one of several -/
/-- what each class of the family has: the def at g C keeps sp C -/
structure Fam1 (X : Cx) (CX : CXT) (k : Nat) (R : Addr → Prop) (m : Str) (ps : List Str) (sp : Addr → Sp) (C g : Addr) (fd : FuncData) : Prop where
  cl : Cls X.K C
  m : Meth X.K C m g
  ok : FnOk X.prog X.w X.K X.mg X.base CX k g fd ps (sp C)
  b : Binds X.K fd ps []
def Fam (X : Cx) (CX : CXT) (k : Nat) (R : Addr → Prop) (m : Str) (ps : List Str) (sp : Addr → Sp) : Prop := ∀ C, R C → ∃ g fd, Fam1 X CX k R m ps sp C g fd
/-- .. called with keywords -/
def FamK (X : Cx) (CX : CXT) (k : Nat) (R : Addr → Prop) (m : Str) (ps ks : List Str) (gV : List V → List V → List V) (sp : Addr → Sp) : Prop := ∀ C, R C → ∃ g fd gg, Fam1 X CX k R m ps sp C g fd ∧ KBn X.K fd ps 1 ks gg gV
def tMethF (R : Addr → Prop) (m : Str) (sp : Addr → Sp) (E : XK) (ta : TE) (t : TA) : TE := fun σ H Q => ta σ H fun x H1 => ∃ a C dx fs, x = .ref a ∧ H1 a = some (.ins C dx fs) ∧ R C ∧ fs.lookup m = none ∧ t σ H1 fun vs H2 => sp C (.ref a :: vs) H2 Q E
def tMethFK (R : Addr → Prop) (m : Str) (n : Nat) (sp : Addr → Sp) (gV : List V → List V → List V) (E : XK) (ta : TE) (tk : TA) : TE := fun σ H Q => ta σ H fun x H1 => ∃ a C dx fs, x = .ref a ∧ H1 a = some (.ins C dx fs) ∧ R C ∧ fs.lookup m = none ∧ tk σ H1 fun zs H2 => zs.length = n ∧ sp C (gV [.ref a] zs) H2 Q E
def FamC (X : Cx) (CX : CXT) (k : Nat) (R : Addr → Prop) (ps : List Str) (sp : Addr → Sp) : Prop := ∀ C, R C → ∃ g fd, StX.CallO X.K C g ∧ FnOk X.prog X.w X.K X.mg X.base CX k g fd ps (sp C) ∧ Binds X.K fd ps []
def FamCK (X : Cx) (CX : CXT) (k : Nat) (R : Addr → Prop) (ps ks : List Str) (gV : List V → List V → List V) (sp : Addr → Sp) : Prop := ∀ C, R C → ∃ g fd gg, StX.CallO X.K C g ∧ FnOk X.prog X.w X.K X.mg X.base CX k g fd ps (sp C) ∧ KBn X.K fd ps 1 ks gg gV
def tCallF (X : Cx) (R : Addr → Prop) (sp : Addr → Sp) (E : XK) (tf : TE) (t : TA) : TE := fun σ H Q => tf σ H fun y H1 => ∃ a C, y = V.ref a ∧ R C ∧ t σ H1 fun vs H2 => StX.InsC X H2 a C ∧ sp C (.ref a :: vs) H2 Q E
def tCallFK (X : Cx) (R : Addr → Prop) (n : Nat) (sp : Addr → Sp) (gV : List V → List V → List V) (E : XK) (tf : TE) (tk : TA) : TE := fun σ H Q => tf σ H fun y H1 => ∃ a C, y = V.ref a ∧ R C ∧ tk σ H1 fun zs H2 => zs.length = n ∧ StX.InsC X H2 a C ∧ sp C (gV [.ref a] zs) H2 Q E
section
variable {X : Cx} {CX : CXT} {k : Nat} {R : Addr → Prop} {m : Str} {ps ks : List Str} {sp : Addr → Sp} {E : XK} {o fe e : Expr} {es : List Expr} {kws : List Keyword} {ta tf : TE} {t tk : TA} {apos pos : Pos} {pl : Sem Bool} {gV : List V → List V → List V}
theorem pe_methF (he : PE X o ta) (F : Fam X CX k R m ps sp) (hr : Room k X.A) (hx : Passes CX X E) (ha : PA X (e :: es) t)
    (hst : starEach (e :: es) X.env = (false, eval e X.env) :: starEach es X.env := by rfl) (hpl : (backTo pos (starEach es X.env)).any (·.1) = false := by rfl)
    (ht : eval (.Call (.Attribute o m apos) (e :: es) [] pos) X.env = (do
      let ov ← eval o X.env
      standAt apos.atName
      let (f, first) ← holding [ov] (getMethod ov m pl)
      callWith pos f first (backTo pos (starEach (e :: es) X.env)) (backToKw pos (keywordEach [] X.env))) := by rfl) :
    PE X (.Call (.Attribute o m apos) (e :: es) [] pos) (tMethF R m sp E ta t) := by
  refine ⟨fun pins s σ H Q I h => ?_⟩
  refine PySem.W.methodCall_KW (pl := pl) (thn (he.run pins s σ H _ I h) fun u s1 ⟨x, H1, I1, rx, a, C, dx, fs, ex, ea, hR, l, q⟩ => ?_) ht
  subst ex
  obtain rfl : u = Value.ref a := rx
  obtain ⟨g, fd, F1⟩ := F C hR
  refine getmeth_ok I1 ea F1.cl F1.m l ?_
  refine PySem.W.callWith_K (first := [.ref a]) (h₀ := X.base) I.ok.mod.kin F1.m.kp (thn (ha.run pos pins s1 σ H1 _ I1 q) fun us s2 ⟨vs, H2, I2, r, q2⟩ => ⟨I2.kIn, ?_⟩) hst hpl
  exact run_fn (us := .ref a :: us) (vs := .ref a :: vs) F1.ok hr F1.b .nil hx I2 (.cons rfl r) (by rw [List.append_nil]; exact q2)
theorem pe_methFK (he : PE X o ta) (F : FamK X CX k R m ps ks gV sp) (hr : Room k X.A) (hx : Passes CX X E) (hkw : PK X kws tk)
    (hall : (backToKw pos (keywordEach kws X.env)).all (·.1.isSome) = true := by rfl) (hks : (backToKw pos (keywordEach kws X.env)).filterMap (·.1) = ks := by rfl)
    (hpl : ((backTo pos (starEach [] X.env)).any (·.1) || (backToKw pos (keywordEach kws X.env)).any (·.1.isNone)) = false := by rfl)
    (ht : eval (.Call (.Attribute o m apos) [] kws pos) X.env = (do
      let ov ← eval o X.env
      standAt apos.atName
      let (f, first) ← holding [ov] (getMethod ov m pl)
      callWith pos f first (backTo pos (starEach [] X.env)) (backToKw pos (keywordEach kws X.env))) := by rfl) :
    PE X (.Call (.Attribute o m apos) [] kws pos) (tMethFK R m ks.length sp gV E ta tk) := by
  refine ⟨fun pins s σ H Q I h => ?_⟩
  refine PySem.W.methodCall_KW (pl := pl) (thn (he.run pins s σ H _ I h) fun u s1 ⟨x, H1, I1, rx, a, C, dx, fs, ex, ea, hR, l, q⟩ => ?_) ht
  subst ex
  obtain rfl : u = Value.ref a := rx
  obtain ⟨g, fd, gg, F1, hb⟩ := F C hR
  refine getmeth_ok I1 ea F1.cl F1.m l ?_
  refine PySem.W.callWith_KW0 (h₀ := X.base) I.ok.mod.kin F1.m.kp hall ?_ hpl
  refine thn (hkw.run pos pins s1 σ H1 _ I1 q) fun ws s2 ⟨zs, H2, I2, rz, l1, q2⟩ => ⟨I2.kIn, ?_⟩
  rw [hks]
  exact run_fnN (us := [.ref a]) (vs := [.ref a]) F1.ok hr hb hx I2 (.cons rfl .nil) rz rfl l1 q2
theorem pe_callF (hf : PE X fe tf) (F : FamC X CX k R ps sp) (hr : Room k X.A) (hx : Passes CX X E) (ha : PA X (e :: es) t)
    (ht : eval (.Call fe (e :: es) [] pos) X.env = (do callWith pos (← eval fe X.env) [] (backTo pos (starEach (e :: es) X.env)) (backToKw pos (keywordEach [] X.env))) := by rfl)
    (he : starEach (e :: es) X.env = (false, eval e X.env) :: starEach es X.env := by rfl) (hpl : (backTo pos (starEach es X.env)).any (·.1) = false := by rfl) : PE X (.Call fe (e :: es) [] pos) (tCallF X R sp E tf t) := by
  refine ⟨fun pins s σ H Q I h => ?_⟩
  refine Call_ (thn (hf.run pins s σ H _ I h) fun u s1 ⟨y, H1, I1, ry, a, C, ey, hR, q⟩ => ?_) ht
  subst ey
  obtain rfl : u = Value.ref a := ry
  obtain ⟨g, fd, c, F1, b⟩ := F C hR
  refine StX.callO_with (thn (ha.run pos pins s1 σ H1 _ I1 q) fun us s2 ⟨vs, H2, I2, r, hi, q2⟩ => ?_) he hpl
  obtain ⟨ox, od, J, hd⟩ := StX.insC_at I2 hi
  exact ⟨⟨C, ox, od, J, hd⟩, StX.run_callO c (F1.raw b .nil) hr hx I2 hi r (by rw [List.append_nil]; exact q2)⟩
theorem pe_callFK (hf : PE X fe tf) (F : FamCK X CX k R ps ks gV sp) (hr : Room k X.A) (hx : Passes CX X E) (hkw : PK X kws tk)
    (hall : (backToKw pos (keywordEach kws X.env)).all (·.1.isSome) = true := by rfl) (hks : (backToKw pos (keywordEach kws X.env)).filterMap (·.1) = ks := by rfl)
    (hpl : ((backTo pos (starEach [] X.env)).any (·.1) || (backToKw pos (keywordEach kws X.env)).any (·.1.isNone)) = false := by rfl)
    (ht : eval (.Call fe [] kws pos) X.env = (do callWith pos (← eval fe X.env) [] (backTo pos (starEach [] X.env)) (backToKw pos (keywordEach kws X.env))) := by rfl) : PE X (.Call fe [] kws pos) (tCallFK X R ks.length sp gV E tf tk) := by
  refine ⟨fun pins s σ H Q I h => ?_⟩
  rw [ht]
  refine wpAny_bind (thn (hf.run pins s σ H _ I h) fun u s1 ⟨y, H1, I1, ry, a, C, ey, hR, q⟩ => ?_)
  subst ey
  obtain rfl : u = Value.ref a := ry
  obtain ⟨g, fd, gg, c, F1, hb⟩ := F C hR
  refine callO_ofK hpl (evalArgs_kw2_nil hall (thn (hkw.run pos pins s1 σ H1 _ I1 q) fun ws s2 ⟨zs, H2, I2, rz, l1, hi, q2⟩ => ?_))
  obtain ⟨ox, od, J, hd⟩ := StX.insC_at I2 hi
  refine ⟨⟨C, ox, od, J, hd⟩, ?_⟩
  rw [hks]
  have r2 := hb.rel (show Vals [V.ref a] [Value.ref a] from .cons rfl .nil) rz
  have hbb := hb.to s2 [.ref a] ws I2.kIn rfl (rz.length.symm.trans l1)
  refine wpAny_call (PySem.W.kco_code I2.kIn J hd c.at_ c.fn c.fi (codeAny_mono (F1.run X.A X.stack s2 H2 ⟨[.ref a], ks.zip ws⟩ (gg [.ref a] ws) (gV [.ref a] zs) Q E hr I2.env0 hbb r2 q2) fun r s' hq => ?_))
  cases r with
  | error e => exact hx pins σ H2 s2 e s' I2 hq
  | ok fl =>
    cases fl with
    | ret u => exact I2.after hq
    | next => exact False.elim hq
    | brk => exact False.elim hq
    | cont => exact False.elim hq
end
end SupX
/-! ### tuples of whole numbers of any lengths, in order -/
namespace SrtX
open PySem PyProof.Rows Srt SrtO
def lexI : List Int → List Int → Bool
  | [], [] => false
  | [], _ :: _ => true
  | _ :: _, [] => false
  | x :: xs, y :: ys => if x = y then lexI xs ys else decide (x < y)
theorem lexI_asym : ∀ {x y : List Int}, lexI x y = true → lexI y x = false
  | [], [], h => by cases h
  | [], _ :: _, _ => rfl
  | _ :: _, [], h => by cases h
  | x :: xs, y :: ys, h => by
    unfold lexI at h ⊢
    by_cases e : x = y
    · rw [if_pos e] at h
      rw [if_pos e.symm]
      exact lexI_asym h
    · rw [if_neg e] at h
      rw [if_neg (fun z => e z.symm)]
      have := of_decide_eq_true h
      exact decide_eq_false (by omega)
theorem lexI_tr : ∀ {x y z : List Int}, lexI y x = false → lexI z y = false → lexI z x = false
  | [], [], _, _, h => h
  | [], _ :: _, [], _, h => by cases h
  | [], _ :: _, _ :: _, h1, h2 => rfl
  | _ :: _, [], _, h, _ => by cases h
  | _ :: _, _ :: _, [], _, h => by cases h
  | x :: xs, y :: ys, z :: zs, h1, h2 => by
    unfold lexI at h1 h2 ⊢
    by_cases e1 : y = x
    · rw [if_pos e1] at h1
      by_cases e2 : z = y
      · rw [if_pos e2] at h2
        rw [if_pos (e2.trans e1)]
        exact lexI_tr h1 h2
      · rw [if_neg e2] at h2
        rw [if_neg (fun q => e2 (q.trans e1.symm)), ← e1]
        exact h2
    · rw [if_neg e1] at h1
      have l1 := of_decide_eq_false h1
      by_cases e2 : z = y
      · rw [if_neg (fun q => e1 (e2.symm.trans q)), e2]
        exact h1
      · rw [if_neg e2] at h2
        have l2 := of_decide_eq_false h2
        rw [if_neg (by omega)]
        exact decide_eq_false (by omega)
theorem swo_lexI (k : Value → List Int) : Swo fun v u => lexI (k v) (k u) := ⟨fun _ _ h => lexI_asym h, fun _ _ _ h1 h2 => lexI_tr h1 h2⟩
/-- the value is a tuple of these whole numbers -/
def IsTI (h : Heap) (v : Value) (ns : List Int) : Prop := ∃ (a : Addr) (o : Obj) (its : List Value) (n : Nat), v = .ref a ∧ h.get? a = some o ∧ o.cls = .type "tuple" ∧ o.data = .seq its.toArray n ∧ Paired (fun (i : Int) (u : Value) => ∃ t, u = .int i t) ns its
theorem IsTI.keeps {h h' : Heap} {v : Value} {ns : List Int} (x : IsTI h v ns) (k : ∀ b o, h.get? b = some o → o.cls = .type "tuple" → h'.get? b = some o) : IsTI h' v ns := by
  obtain ⟨a, o, its, n, e, ho, hc, hd, p⟩ := x
  exact ⟨a, o, its, n, e, k _ _ ho hc, hc, hd, p⟩
section
variable {prog : Program} {w : World} {A : Around} {s : Shared}
theorem kat_ints : ∀ {xs ys : List Int} {us vs : List Value} (i : Nat), Paired (fun (i : Int) (u : Value) => ∃ t, u = .int i t) xs us → Paired (fun (i : Int) (u : Value) => ∃ t, u = .int i t) ys vs →
    PySem.W.KatLex prog w A true (decide (xs.length < ys.length)) (fun r s' => s' = s ∧ r = lexI xs ys) (us.zip vs) i s
  | [], [], _, _, i, .nil, .nil => PySem.W.kat_nil ⟨rfl, rfl⟩
  | [], _ :: _, _, _, i, .nil, .cons _ _ => PySem.W.kat_nil ⟨rfl, by rw [List.length_nil, List.length_cons]; exact decide_eq_true (Nat.succ_pos _)⟩
  | _ :: _, [], _, _, i, .cons _ _, .nil => PySem.W.kat_nil ⟨rfl, by rw [List.length_nil]; exact decide_eq_false (Nat.not_lt_zero _)⟩
  | x :: xs, y :: ys, _, _, i, .cons (l₂ := us) h1 t1, .cons (l₂ := vs) h2 t2 => by
    obtain ⟨t, rfl⟩ := h1
    obtain ⟨u, rfl⟩ := h2
    refine PySem.W.kat_cons (SeqAt.EqAt.int_int x t y u prog w _ _ ?_)
    refine PySem.W.kat_go (fun e => ?_) (fun e => ?_)
    · have e : x = y := by simpa using e
      refine PySem.W.kat_yes ?_
      have ih := kat_ints (i + 1) t1 t2
      have el : (xs.length < ys.length) = ((x :: xs).length < (y :: ys).length) := by
        rw [List.length_cons, List.length_cons, Nat.succ_lt_succ_iff]
      have ev : lexI (x :: xs) (y :: ys) = lexI xs ys := by
        rw [lexI, if_pos e]
      rw [ev]
      simp only [List.length_cons, Nat.add_lt_add_iff_right]
      exact ih
    · have e : ¬ x = y := by simpa using e
      have ev : lexI (x :: xs) (y :: ys) = decide (x < y) := by
        rw [lexI, if_neg e]
      rw [ev]
      refine PySem.W.kat_no ?_
      cases hb : (true && i == 0) with
      | true => exact oneLt_int ⟨rfl, rfl⟩
      | false => exact PySem.W.kat_one _ _ (PyProof.Rows.lt_int (show s = s ∧ decide (x < y) = decide (x < y) from ⟨rfl, rfl⟩))
theorem tup_cmp {vs : List Value} {k : Value → List Int} (hp : ∀ v ∈ vs, IsTI s.heap v (k v)) : Cmp prog w A s (tuples' true) (fun p => p.1 ∈ vs) (lt2 fun v u => lexI (k v) (k u)) := by
  intro p q hm hm'
  have h1 := hp _ hm
  have h2 := hp _ hm'
  show wpAny (model prog w) A (keyLt' (tuples' true) p.1 q.1) (fun r s' => s' = s ∧ r = lexI (k p.1) (k q.1)) (fun _ _ => False) s
  generalize k p.1 = x at h1 ⊢
  generalize k q.1 = y at h2 ⊢
  obtain ⟨a, o, its, n, e, ho, hc, hd, p1⟩ := h1
  obtain ⟨a', o', its', n', e', ho', hc', hd', p2⟩ := h2
  rw [e, e']
  refine PySem.W.kat_lt ho hd ho' hd' ?_
  have l1 : its.toArray.size = x.length := by rw [List.size_toArray]; exact (Paired.length p1).symm
  have l2 : its'.toArray.size = y.length := by rw [List.size_toArray]; exact (Paired.length p2).symm
  rw [l1, l2]
  exact kat_ints 0 p1 p2
theorem firstsI {h : Heap} : ∀ {vs : List Value} {k : Value → List Int}, (∀ v ∈ vs, IsTI h v (k v) ∧ k v ≠ []) → ∃ fs : List Value, PySem.W.KatTups h vs fs ∧ fs.length = vs.length ∧ ∀ f ∈ fs, ∃ x t, f = Value.int x t
  | [], _, _ => ⟨[], PySem.W.KatTups.nil, rfl, fun _ hm => by simp at hm⟩
  | v :: vs, k, hp => by
    obtain ⟨fs, h1, h2, h3⟩ := firstsI (vs := vs) (k := k) fun v' hm => hp v' (List.mem_cons_of_mem _ hm)
    obtain ⟨⟨a, o, its, n, e, ho, hc, hd, p⟩, ne⟩ := hp v (List.mem_cons_self ..)
    subst e
    generalize k (.ref a) = ks at p ne
    cases p with
    | nil => exact absurd rfl ne
    | cons hx tl =>
      obtain ⟨t, rfl⟩ := hx
      refine ⟨_ :: fs, PySem.W.KatTups.cons ho hc hd rfl h1, by rw [List.length_cons, List.length_cons, h2], fun f hm => ?_⟩
      rcases List.mem_cons.mp hm with rfl | hm
      · exact ⟨_, t, rfl⟩
      · exact h3 f hm
theorem tups_sortableO {a : Addr} {vs : List Value} {k : Value → List Int} (h0 : 0 < vs.length) (hp : ∀ v ∈ vs, IsTI s.heap v (k v) ∧ k v ≠ []) (ha : ∀ o, s.heap.get? a = some o → o.cls ≠ .type "tuple") : SortableO prog w A s a vs fun v u => lexI (k v) (k u) := by
  intro h' keep
  have hp' : ∀ v ∈ vs, IsTI h' v (k v) ∧ k v ≠ [] := fun v hm => ⟨(hp v hm).1.keeps fun b o e c => keep b o (fun z => by subst z; exact ha o e c) e, (hp v hm).2⟩
  obtain ⟨fs, h1, h2, h3⟩ := firstsI hp'
  refine ⟨tuples' true, fun Q E hq => ?_, tup_cmp fun v hm => (hp' v hm).1⟩
  refine PySem.W.kat_kind (T := .type "int") h1 (by omega) (fun f hm => ?_) (by rfl) ?_
  · obtain ⟨x, t, rfl⟩ := h3 f hm
    exact PySem.W.Looks.now
  · have e : (Value.type "int" != Value.type "tuple") = true := by first | decide +kernel | rfl | decide
    rw [e]
    exact hq
end
end SrtX
/-! ### dict(d) and sorted(d) of dicts with tuple keys -/
namespace SupX
open PySem PySem.Spec PyProof.Rows L2
def kHash (k : List Key) : Int := reduceHash (Builtin.Tuple.tupleHashOf (k.map fun x => match x with
  | .inl i => hashInt i
  | .inr _ => 0))
def intKey (k : List Key) : Prop := ∀ x ∈ k, ∃ i, x = Sum.inl i
theorem kHash_of {P : Program} {w : World} {k : List Key} (h : intKey k) : (tupleKind (mixKind P w)).hash k = kHash k := by
  show reduceHash (Builtin.Tuple.tupleHashOf (k.map (mixKind P w).hash)) = _
  unfold kHash
  have e : k.map (mixKind P w).hash = k.map fun x => match x with
      | .inl i => hashInt i
      | .inr _ => 0 := by
    refine List.map_congr_left fun x hx => ?_
    obtain ⟨i, rfl⟩ := h x hx
    rfl
  rw [e]
section
variable {X : Cx}
theorem paired_map {α β γ : Type} {F : α → β → Prop} {f : α → γ} {g : β → γ} (h : ∀ a b, F a b → f a = g b) : ∀ {l₁ : List α} {l₂ : List β}, Paired F l₁ l₂ → l₁.map f = l₂.map g
  | _, _, .nil => rfl
  | _, _, .cons r t => by rw [List.map_cons, List.map_cons, h _ _ r, paired_map h t]
theorem paired_mem {α β : Type} {F : α → β → Prop} : ∀ {l₁ : List α} {l₂ : List β}, Paired F l₁ l₂ → ∀ b ∈ l₂, ∃ a ∈ l₁, F a b
  | _, _, .nil, b, h => by cases h
  | _, _, .cons (a := a0) r t, b, h => by
    rcases List.mem_cons.mp h with rfl | h
    · exact ⟨_, List.mem_cons_self, r⟩
    · obtain ⟨a, m, f⟩ := paired_mem t b h
      exact ⟨a, List.mem_cons_of_mem _ m, f⟩
theorem call_dictH {K : Type} [DecidableEq K] {prog : Program} {w : World} {knd : HeapKind prog w K} {A : Around} {E : Value → Shared → Prop} {s : Shared} {o : Addr} {more : List (K × Addr × Value)} {Q : Value → Shared → Prop} (hu : knd.room A.in1.in1) (hoS : (o == sysModules) = false) (ho : s.heap.DictOfH knd o more) (hsz : more.length ≤ sizeLine)
    (hty : ∀ x ∈ more, s.TypeIs (.ref x.2.1) "tuple") (hap : (more.map fun x => knd.hash x.1).Nodup) (his : ∀ x ∈ more, knd.is (s.heap.push { cls := .type "dict", data := .dict #[] }) x.1 x.2.1)
    (h : ∀ h', h'.DictOfH knd s.heap.objs.size more → Heap.SameBut s.heap.objs.size (s.heap.push { cls := .type "dict", data := .dict #[] }) h' → Q (.ref s.heap.objs.size) { s with heap := h' }) :
    wpAny (model prog w) A (call (.type "dict") [.ref o]) Q E s := by
  refine callType_codes (Q₁ := fun obj s₁ => obj = .ref s.heap.objs.size ∧ s₁ = { s with heap := s.heap.push { cls := .type "dict", data := .dict #[] } }) F.kt_called_dict (F.kt_typeCall_dict_1 _) F.entry_dict_init (kt_code_dict_new _ ⟨rfl, rfl⟩) ?_
  rintro obj s₁ ⟨rfl, rfl⟩
  have hgn : (s.heap.push { cls := .type "dict", data := .dict #[] }).get? s.heap.objs.size = some { cls := .type "dict", data := .dict #[] } := Heap.get?_push_size _ rfl
  have hnew : (s.heap.push { cls := .type "dict", data := .dict #[] }).DictOfH knd s.heap.objs.size [] := ⟨_, #[], _, hgn, ⟨rfl, rfl, rfl⟩, rfl, rfl, (fun x hx => absurd hx (by simp)), List.nodup_nil⟩
  have ho' : (s.heap.push { cls := .type "dict", data := .dict #[] }).DictOfH knd o more := by
    obtain ⟨oo, es, ep, h1, h2, h3, h4, h5, h6⟩ := ho
    exact ⟨oo, es, ep, Heap.get?_push_of_some _ h1, h2, h3, h4, his, h6⟩
  have hn : (more.map (·.1)).Nodup := ho.nodup
  have hdo : s.heap.objs.size ≠ o := by
    obtain ⟨_, _, _, hg, _⟩ := ho
    exact fun e => absurd (Heap.lt_size hg) (by rw [e]; exact Nat.lt_irrefl _)
  have hT : ({ s with heap := s.heap.push { cls := .type "dict", data := .dict #[] } } : Shared).TypeIs (.ref s.heap.objs.size) "dict" := ⟨_, hgn, rfl⟩
  refine ⟨hT, F.args_dict_init_2 _ _, ?_⟩
  unfold Builtin.«dict.__init__»
  refine wpAny_bind ?_
  unfold Builtin.Dict.selfAndRest
  refine wpAny_bind (wpAny_notOrdered_dict hT ?_)
  show wpAny _ _ (pure (s.heap.objs.size, [Value.ref o])) _ _ _
  refine wpAny_pure ?_
  show wpAny _ _ (Builtin.Dict.updateFrom "dict.__init__" s.heap.objs.size (.ref o) [] .none) _ _ _
  unfold Builtin.Dict.updateFrom
  refine wpAny_bind (wpAny_typeOf ho'.typeIs ?_)
  rw [if_neg (by decide)]
  refine wpAny_bind ?_
  unfold Builtin.Dict.merge
  refine wpAny_bind ?_
  unfold Builtin.Dict.readDirectly
  refine wpAny_bind (wpAny_isInstance ho'.typeIs isSubtype_dict_dict ?_)
  simp only [Bool.not_true, Bool.false_eq_true, if_false]
  refine wpAny_bind (wpAny_specialOf ho'.typeIs F.slot_dict_iter.lookup (wpAny_pure ?_))
  simp only [beq_self_eq_true, if_true]
  refine wpAny_bind (wpAny_pure ?_)
  have hty' : ∀ x ∈ more, ({ s with heap := s.heap.push { cls := .type "dict", data := .dict #[] } } : Shared).TypeIs (.ref x.2.1) "tuple" := fun x hx => by
    obtain ⟨o2, e1, e2⟩ := hty x hx
    exact ⟨o2, Heap.get?_push_of_some _ e1, e2⟩
  refine wpAny_mergeDict_heap (hsz := by simpa using hsz) hu hdo hoS hnew ho' (.inr ⟨hty', hap⟩) fun h' hd' _ hs' => ?_
  show wpAny _ _ (Builtin.Dict.addKeywords s.heap.objs.size [] >>= _) _ _ _
  rw [storedAllH_nil_of_nodup more hn] at hd'
  exact wpAny_bind (wpAny_pure (wpAny_pure ⟨rfl, h h' hd' hs'⟩))
/-- dict(d), the keys tuples of ints with different hashes: a copy -/
theorem call_dictT (hu : X.A.units + 64 < cLine) : CallR X (.type "dict") (fun xs H Q => ∃ (a : Addr) (kvs : List (List Key × V)), xs = [.ref a] ∧ Rd H a (.dT kvs) ∧ (∀ p ∈ kvs, intKey p.1) ∧ (kvs.map fun p => kHash p.1).Nodup ∧ ∀ p, H p = none → Q (.ref p) (upd H p (.dT kvs))) := by
  intro pins s σ H xs us Q I r q
  obtain ⟨a, kvs, ex, hd, hik, hnd, q⟩ := q
  subst ex
  obtain ⟨u, eu, rx⟩ := vals1 r
  subst eu
  cases rx
  obtain ⟨z, lo, ks, pr, dd⟩ := dt_rd I.hok hd
  have hlen : kvs.length = ks.length := Paired.length pr
  have hm : (s.heap.objs.size == sysModules) = false := beq_eq_false_iff_ne.mpr (Nat.ne_of_gt I.big)
  have tup : ∀ x ∈ ks, H x.2.1 = some (.tup (x.1.map kV)) := fun x hx => by
    obtain ⟨p, _, e1, e2, _⟩ := paired_mem pr x hx
    rw [← e1]
    exact e2
  have hh : (ks.map fun x => (tupleKind (mixKind X.prog X.w)).hash x.1) = kvs.map fun p => kHash p.1 := by
    refine (paired_map (F := fun p q => (p.1 = q.1 ∧ H q.2.1 = some (.tup (p.1.map kV)) ∧ RelV p.2 q.2.2) ∧ p ∈ kvs) (fun p x hp => ?_) ?_).symm
    · rw [← hp.1.1, kHash_of (hik p hp.2)]
    · have go : ∀ {l : List (List Key × V)} {m : List (List Key × Addr × Value)}, KT H l m → (∀ p ∈ l, p ∈ kvs) → Paired (fun p q => (p.1 = q.1 ∧ H q.2.1 = some (.tup (p.1.map kV)) ∧ RelV p.2 q.2.2) ∧ p ∈ kvs) l m := by
        intro l m r
        induction r with
        | nil => exact fun _ => .nil
        | cons h t ih => exact fun hm => .cons ⟨h, hm _ List.mem_cons_self⟩ (ih fun p hp => hm p (List.mem_cons_of_mem _ hp))
      exact go pr fun _ h => h
  have I1 : ∀ b o, s.heap.get? b = some o → (s.heap.push { cls := .type "dict", data := .dict #[] }).get? b = some o := fun b o e => Heap.get?_push_of_some _ e
  refine call_dictH (show X.A.in1.in1.units < cLine from Nat.lt_of_le_of_lt (show X.A.units + 2 ≤ X.A.units + 64 by omega) hu) lo dd (by rw [← hlen]; exact z) (fun x hx => ?_) (by rw [hh]; exact hnd) (fun x hx => key_of (I.hok.kept I1) (tup x hx)) fun h' d' hs => ?_
  · obtain ⟨_, its, _, o, h1, h2, _⟩ := I.hok _ _ (tup x hx)
    exact ⟨o, h1, h2⟩
  · refine ⟨.ref s.heap.objs.size, upd H s.heap.objs.size (.dT kvs), I.laid (t' := s.toks) (fun b u e => (hs.2 b (Nat.ne_of_lt (Heap.lt_size e))).trans (Heap.get?_push_of_some _ e)) (Nat.le_refl _) ?_, rfl, q _ (I.hok.fresh (Nat.le_refl _))⟩
    obtain ⟨o, es, ep, e1, e2, e3, e4, _, e6⟩ := d'
    refine ⟨z, hm, ks, ?_, o, es, ep, e1, e2, e3, e4, e6⟩
    exact pr.keeps fun b ys e => by rw [upd_ne (ne_of_none e (I.hok.fresh (Nat.le_refl _)))]; exact e
end
end SupX
namespace SupX
open PySem PySem.Spec PyProof.Rows L2
/-- the whole numbers of a tracked tuple -/
def intsAt (H : Hp) (v : Value) : List Int := match v with
  | .ref b => (match H b with
    | some (.tup xs) => xs.map fun x => match x with
      | .int i => i
      | _ => 0
    | _ => [])
  | _ => []
def keyInts (k : List Key) : List Int := k.map fun x => match x with
  | .inl i => i
  | .inr _ => 0
section
variable {X : Cx}
theorem intsAt_key {H : Hp} {b : Addr} {k : List Key} (h : H b = some (.tup (k.map kV))) (hi : intKey k) : intsAt H (.ref b) = keyInts k := by
  unfold intsAt keyInts
  simp only [h]
  rw [List.map_map]
  refine List.map_congr_left fun x hx => ?_
  obtain ⟨i, rfl⟩ := hi x hx
  rfl
theorem isTI_key {pins : List (Addr × Obj)} {σ : L2.St} {H : Hp} {s : Shared} {b : Addr} {k : List Key} (I : Inv X pins σ H s) (h : H b = some (.tup (k.map kV))) (hi : intKey k) : SrtX.IsTI s.heap (.ref b) (intsAt H (.ref b)) := by
  rw [intsAt_key h hi]
  obtain ⟨_, its, r, o, h1, h2, n, h3⟩ := I.hok _ _ h
  refine ⟨b, o, its, n, rfl, h1, h2, h3, ?_⟩
  have go : ∀ {k : List Key} {its : List Value}, intKey k → Vals (k.map kV) its → Paired (fun (i : Int) (u : Value) => ∃ t, u = .int i t) (keyInts k) its := by
    intro k
    induction k with
    | nil => intro its _ r; cases r; exact .nil
    | cons x k ih =>
      intro its hi r
      cases r with
      | cons h t =>
        obtain ⟨i, rfl⟩ := hi x List.mem_cons_self
        exact .cons h (ih (fun y hy => hi y (List.mem_cons_of_mem _ hy)) t)
  exact go hi r
/-- sorted(d) of a dict whose keys are tuples of ints -/
theorem call_sortedT (hc : X.calm = true) : CallR X (.builtin "sorted") (fun xs H Q => ∃ (a : Addr) (kvs : List (List Key × V)), xs = [.ref a] ∧ Rd H a (.dT kvs) ∧ (∀ p ∈ kvs, intKey p.1 ∧ p.1 ≠ []) ∧
    ∀ (ys : List V) (p : Addr) (bs : List Addr), IsKeys H kvs bs → ys.Perm (bs.map V.ref) → H p = none → Q (.ref p) (upd H p (.lst ys))) := by
  intro pins s σ H xs us Q I r h
  obtain ⟨d, kvs, rfl, hd, hik, q⟩ := h
  obtain ⟨u, rfl, rx⟩ := r.one
  cases rx
  obtain ⟨z, hs, ks, pr, o, es, ep, ho, hx, hdt, he, hn⟩ := (show ObjOk X.prog X.w H s.heap d (.dT kvs) from hd.ok I.hok)
  have l1 : es.size = ks.length := size_of_entries he
  have l2 : kvs.length = ks.length := Paired.length pr
  refine Calls.call_function_entry PyProof.Rows.kind_sorted PyProof.Rows.plain_sorted PyProof.Rows.entry_sorted (PyProof.Rows.args_sorted1 _) ?_
  unfold Builtin.«sorted»
  refine wpAny_bind (m := checkCount "sorted" 1 1 _) (wpAny_pure ?_)
  refine wpAny_bind (PySem.W.kdu_collect (A := X.A.in1) (kdl_raw hs hx hdt) (I.ok.hd hc) ho (by omega) fun h' tk acc' hk it => ?_)
  have ea : acc'.toList = ks.map fun x => Value.ref x.2.1 := by
    have hl : acc'.toList.length = ks.length := by rw [Array.length_toList, it.1]; exact l1
    apply List.ext_getElem?
    intro j
    rw [List.getElem?_map]
    cases hj : acc'.toList[j]? with
    | none =>
      have h1 := List.getElem?_eq_none_iff.mp hj
      rw [List.getElem?_eq_none (by omega)]
      all_goals rfl
    | some v =>
      obtain ⟨en, hen, hv⟩ := it.2 j v (by rw [← Array.getElem?_toList]; exact hj)
      have qe := entry_at he j
      rw [hen] at qe
      cases hb : ks[j]? with
      | none =>
        rw [hb] at qe
        exact nomatch (show some en = none from qe)
      | some b =>
        rw [hb] at qe
        have e2 : en = entryOfKey (tupleKind (mixKind X.prog X.w)) b := Option.some.inj qe
        rw [hv, e2]
        all_goals rfl
  have eb : acc'.toList = (ks.map fun x => x.2.1).map Value.ref := by rw [ea, List.map_map]; all_goals rfl
  have I1 : Inv X pins σ H { s with heap := h', toks := tk } := I.kept hk
  have hlen : acc'.toList.length ≤ sizeLine := by rw [ea, List.length_map]; omega
  refine wpAny_bind (wpAny_newList ?_ hlen)
  have hoL : (h'.push (seqObj "list" acc'.toList.toArray 0)).get? h'.objs.size = some (seqObj "list" acc'.toList.toArray 0) := Heap.get?_push_size _ rfl
  have I2 : Inv X pins σ H { s with heap := h'.push (seqObj "list" acc'.toList.toArray 0), toks := tk } := I1.kept (t' := tk) fun b o e => Heap.get?_push_of_some _ e
  show wpAny _ _ _ _ _ { s with heap := h'.push (seqObj "list" acc'.toList.toArray 0), toks := tk }
  have tis : ∀ v ∈ acc'.toList, SrtX.IsTI (h'.push (seqObj "list" acc'.toList.toArray 0)) v (intsAt H v) ∧ intsAt H v ≠ [] := fun v hv => by
    rw [ea] at hv
    obtain ⟨x, hx, rfl⟩ := List.mem_map.mp hv
    obtain ⟨p, hp, e1, e2, _⟩ := paired_mem pr x hx
    refine ⟨isTI_key I2 e2 (hik p hp).1, ?_⟩
    rw [intsAt_key e2 (hik p hp).1]
    intro e
    refine (hik p hp).2 ?_
    unfold keyInts at e
    exact List.map_eq_nil_iff.mp e
  refine wpAny_bind (wpAny_holding (wpAny_call_entry PyProof.Rows.slot_list_sort ⟨_, hoL, rfl⟩ PyProof.Rows.entry_list_sort
    (SrtO.list_sort_ord (s := { s with heap := h'.push (seqObj "list" acc'.toList.toArray 0), toks := tk }) (SrtX.swo_lexI (intsAt H)) hoL hlen (fun h2 => SrtX.tups_sortableO (by omega) tis fun o e => ?_) fun out hso hb => ⟨_, rfl, ?_⟩)
    (PyProof.Rows.args_list_sort _)))
  · have e' : some o = some (seqObj "list" acc'.toList.toArray 0) := e.symm.trans hoL
    cases e'
    intro c
    exact absurd (Value.type.inj c) (by decide)
  · obtain ⟨e', he'⟩ := PyProof.Rows.sortedHeap_at (vs := acc'.toList) (out := out.toArray) hoL
    have h3 : ∀ u ∈ out, ∃ a, u = Value.ref a := fun u hu => by
      have := hb.perm.mem_iff.mp hu
      rw [ea] at this
      obtain ⟨x, _, rfl⟩ := List.mem_map.mp this
      exact ⟨_, rfl⟩
    have hp2 : (out.map bkV).Perm ((ks.map fun x => x.2.1).map V.ref) := by
      have := hb.perm.map bkV
      rw [eb, List.map_map] at this
      exact this
    have hlen2 : (out.map bkV).length ≤ sizeLine := by
      rw [hp2.length_eq, List.length_map, List.length_map]
      omega
    refine wpAny_pure ⟨_, rfl, .ref h'.objs.size, upd H h'.objs.size (.lst (out.map bkV)), I1.laid (t' := tk) (fun b u e => ?_) (Nat.le_refl _) ⟨hlen2, out, e', bkV_vals h3, he'⟩, rfl, q _ _ _ (isKeys_of pr) hp2 (I1.hok.fresh (Nat.le_refl _))⟩
    have hb : b < h'.objs.size := Heap.lt_size e
    rw [PyProof.Rows.sortedHeap_old (Nat.ne_of_lt hb) (by rw [size_push']; exact Nat.lt_succ_of_lt hb)]
    exact Heap.get?_push_of_some _ e
end
end SupX
namespace XV
open PySem PySem.W PySem.Calls PySem.Builtin PySem.Builtin.ObjectAttr PyProof.Rows PySem.HandSPX
/-- own classes, then the base's mro -/
def refsT (tail : List Value) : List Value → Bool
  | .ref _ :: r => refsT tail r
  | l => l == tail
theorem refsT_cases {tail : List Value} : ∀ l : List Value, refsT tail l = true → (∃ c r, l = .ref c :: r ∧ refsT tail r = true) ∨ l = tail
  | [], e => .inr (beq_iff_eq.mp e)
  | .ref c :: r, e => .inl ⟨c, r, rfl, e⟩
  | .none :: _, e => .inr (beq_iff_eq.mp e)
  | .ellipsis :: _, e => .inr (beq_iff_eq.mp e)
  | .notImplemented :: _, e => .inr (beq_iff_eq.mp e)
  | .bool _ :: _, e => .inr (beq_iff_eq.mp e)
  | .int _ _ :: _, e => .inr (beq_iff_eq.mp e)
  | .float _ _ :: _, e => .inr (beq_iff_eq.mp e)
  | .str _ _ :: _, e => .inr (beq_iff_eq.mp e)
  | .bytes _ _ :: _, e => .inr (beq_iff_eq.mp e)
  | .type _ :: _, e => .inr (beq_iff_eq.mp e)
  | .builtin _ :: _, e => .inr (beq_iff_eq.mp e)
/-- what the base's mro must keep -/
structure TailOk (tail : List Value) : Prop where
  pass : ∀ self, refuseLoop self "__setattr__" tail = pure ()
  obj : tail.contains (.type "object") = true
theorem TailOk.ne {tail : List Value} (T : TailOk tail) : tail ≠ [] := fun e => by
  have h := T.obj
  rw [e] at h
  cases h
theorem refsT_pass {tail : List Value} (T : TailOk tail) (self : Value) : ∀ l : List Value, refsT tail l = true → refuseLoop self "__setattr__" l = pure () := by
  intro l
  induction l with
  | nil => intro e; exact absurd (beq_iff_eq.mp e).symm T.ne
  | cons a r ih =>
    intro e
    rcases refsT_cases (a :: r) e with ⟨c, r', q, h⟩ | q
    · obtain ⟨rfl, rfl⟩ := List.cons.inj q
      rw [refuseLoop_ref]; exact ih h
    · rw [q]; exact T.pass self
theorem refsT_contains {tail : List Value} (T : TailOk tail) (X : String) : ∀ l : List Value, refsT tail l = true → l.contains (.type X) = tail.contains (.type X) := by
  intro l
  induction l with
  | nil => intro e; exact absurd (beq_iff_eq.mp e).symm T.ne
  | cons a r ih =>
    intro e
    rcases refsT_cases (a :: r) e with ⟨c, r', q, h⟩ | q
    · obtain ⟨rfl, rfl⟩ := List.cons.inj q
      rw [List.contains_cons, ih h]; rfl
    · rw [q]
theorem refsT_ne {tail l : List Value} (T : TailOk tail) (e : refsT tail l = true) : l.isEmpty = false := by
  cases l with
  | nil => exact absurd (beq_iff_eq.mp e).symm T.ne
  | cons _ _ => rfl
abbrev tailVE : List Value := [.type "ValueError", .type "Exception", .type "BaseException", .type "object"]
abbrev tailLE : List Value := [.type "LookupError", .type "Exception", .type "BaseException", .type "object"]
abbrev tailIE : List Value := [.type "IndexError", .type "LookupError", .type "Exception", .type "BaseException", .type "object"]
theorem tailVE_ok : TailOk tailVE := ⟨F.store_ValueError.passes, by decide +kernel⟩
theorem tailLE_ok : TailOk tailLE := ⟨F.store_LookupError.passes, by decide +kernel⟩
theorem tailIE_ok : TailOk tailIE := ⟨F.store_IndexError.passes, by decide +kernel⟩
section
variable {prog : Program} {w : World} {A : Around} {E : Value → Shared → Prop} {R : Result → Shared → Prop} {hp : Heap} {g : Array GenState} {d : Drawn} {t : Nat} {os : OsState}
theorem exc_osaT {K : W.Frag} {name : Str} {tk : Tok} {v : Value} {x C : Addr} {fv : Array Value} {cd : ClassData} {tail : List Value} (T : TailOk tail)
    (X : K.In hp) (hx : hp.get? x = some { cls := .ref C, data := .fields fv }) (hcd : W.clsIn K C = some cd) (hm : refsT tail cd.mro = true) (hh : cd.hasDict = true) (ha : W.findIn K (.ref C) name = some none)
    (hq : ∀ h' tk' dx, (∀ b o, b ≠ x → hp.get? b = some o → h'.get? b = some o) → hp.objs.size ≤ dx → dx ≠ x → h'.get? x = some { cls := .ref C, dict := some dx, data := .fields fv } →
      h'.Ns1 dx (fun y => if y = name then some v else none) → R (.ok (.ret .none)) ⟨h', g, d, tk', os⟩) :
    codeAny (model prog w) A (.call (.builtin "object.__setattr__") ⟨[.ref x, .str name tk, v], []⟩) R ⟨hp, g, d, t, os⟩ := by
  have I : W.InstAt hp x { cls := .ref C, data := .fields fv } C none := ⟨hx, rfl, rfl, trivial⟩
  have SF := F.store_object
  have ne := refsT_ne T hm
  have hob : cd.mro.contains (.type "object") = true := (refsT_contains T "object" _ hm).trans T.obj
  have hxs : x ≠ hp.objs.size := Nat.ne_of_lt (Heap.lt_size hx)
  have sub : W.Looks (model prog w) hp (isInstance (.ref x) (.type "object")) true := I.type.andThen (W.looks_mroIn X (by unfold W.mroIn; rw [hcd, Option.bind_some, if_neg (by rw [ne]; decide), hob]))
  refine codeAny_call_builtin SF.slot.plain SF.entry (@W.check_slot (model prog w) _ _ ⟨hp, g, d, t, os⟩ "object.__setattr__" "object" "__setattr__" (.ref x) [.str name tk, v] [] _ SF.kind SF.split sub (SF.args (.ref x) (.str name tk) v) ?_)
  have hmr : W.Looks (model prog w) hp (mroOf (.ref C)) cd.mro := (W.looks_clsIn X hcd).andThen .now
  have L3 : W.Looks (model prog w) hp (storeTaker? none) none := .now
  have hcls : W.Looks (model prog w) hp (classData C) cd := W.looks_clsIn X hcd
  rw [W.osa_eq, refuse_eq]
  refine wpAny_bind (wpAny_bind (I.type.at (wpAny_bind (hmr.at ?_))))
  rw [refsT_pass T _ _ hm]
  refine wpAny_pure (wpAny_bind (I.type.at (wpAny_bind ((W.looks_findIn X ha).at (wpAny_bind (L3.at ?_))))))
  show wpAny _ _ (storeInOwnDict (.ref x) (.ref C) (.str name tk) name v false) _ _ _
  obtain ⟨nm, bs, mro, ns, qn, hd, sn, sb, ab, col, del⟩ := cd
  dsimp only at hh
  subst hh
  unfold storeInOwnDict ownDictForStores
  repeat (first | with_reducible refine store_in_new ?_ ?_ | with_reducible refine wpAny_loadPart_at hx ?_ | with_reducible refine hcls.at ?_ | wp_step)
  · exact ⟨_, #[], _, (Heap.get?_update_ne _ _ _ _ hxs.symm).trans (Heap.get?_push_at rfl rfl), rfl, fun e he => absurd he (by simp), fun _ => rfl⟩
  · intro h' tk' hn' hs
    have hx₁ : (hp.push { cls := .type "dict", data := .dict #[] }).get? x = some { cls := .ref C, data := .fields fv } := Heap.get?_push_of_some _ hx
    refine hq h' tk' hp.objs.size (fun b o hb ho => ?_) (Nat.le_refl _) hxs.symm ?_ hn'
    · exact (hs.2 b (Nat.ne_of_lt (Heap.lt_size ho))).trans ((Heap.get?_update_ne _ _ _ _ hb).trans (Heap.get?_push_of_some _ ho))
    · exact (hs.2 x hxs).trans (Heap.get?_update_self _ hx₁ rfl)
theorem osa_oldT {K : W.Frag} {name : Str} {tk : Tok} {v : Value} {x C dx : Addr} {fv : Array Value} {cd : ClassData} {m0 : Str → Option Value} {nl : List Str} {tail : List Value} (T : TailOk tail)
    (X : K.In hp) (hx : hp.get? x = some { cls := .ref C, dict := some dx, data := .fields fv }) (hns : hp.Ns1 dx m0) (hw : Within m0 nl) (hz : nl.length ≤ 1000) (hcd : W.clsIn K C = some cd) (hm : refsT tail cd.mro = true) (hh : cd.hasDict = true)
    (ha : W.findIn K (.ref C) name = some none)
    (hq : ∀ h' tk', (∀ b o, b ≠ dx → hp.get? b = some o → h'.get? b = some o) → h'.Ns1 dx (fun y => if y = name then some v else m0 y) → R (.ok (.ret .none)) ⟨h', g, d, tk', os⟩) :
    codeAny (model prog w) A (.call (.builtin "object.__setattr__") ⟨[.ref x, .str name tk, v], []⟩) R ⟨hp, g, d, t, os⟩ := by
  obtain ⟨oD, esD, epD, hoD, hdD, _⟩ := hns.count hw
  have I : W.InstAt hp x { cls := .ref C, dict := some dx, data := .fields fv } C (some oD) := ⟨hx, rfl, rfl, hoD⟩
  have SF := F.store_object
  have ne := refsT_ne T hm
  have hob : cd.mro.contains (.type "object") = true := (refsT_contains T "object" _ hm).trans T.obj
  have sub : W.Looks (model prog w) hp (isInstance (.ref x) (.type "object")) true := I.type.andThen (W.looks_mroIn X (by unfold W.mroIn; rw [hcd, Option.bind_some, if_neg (by rw [ne]; decide), hob]))
  refine codeAny_call_builtin SF.slot.plain SF.entry (@W.check_slot (model prog w) _ _ ⟨hp, g, d, t, os⟩ "object.__setattr__" "object" "__setattr__" (.ref x) [.str name tk, v] [] _ SF.kind SF.split sub (SF.args (.ref x) (.str name tk) v) ?_)
  have hmr : W.Looks (model prog w) hp (mroOf (.ref C)) cd.mro := (W.looks_clsIn X hcd).andThen .now
  have L3 : W.Looks (model prog w) hp (storeTaker? none) none := .now
  have hcls : W.Looks (model prog w) hp (classData C) cd := W.looks_clsIn X hcd
  rw [W.osa_eq, refuse_eq]
  refine wpAny_bind (wpAny_bind (I.type.at (wpAny_bind (hmr.at ?_))))
  rw [refsT_pass T _ _ hm]
  refine wpAny_pure (wpAny_bind (I.type.at (wpAny_bind ((W.looks_findIn X ha).at (wpAny_bind (L3.at ?_))))))
  show wpAny _ _ (storeInOwnDict (.ref x) (.ref C) (.str name tk) name v false) _ _ _
  obtain ⟨nm, bs, mro, ns, qn, hd, sn, sb, ab, col, del⟩ := cd
  dsimp only at hh
  subst hh
  unfold storeInOwnDict ownDictForStores
  repeat (first | with_reducible refine PySem.OEX.store_in_old hns hw hz ?_ | with_reducible refine wpAny_loadPart_at hx ?_ | with_reducible refine hcls.at ?_ | wp_step)
  intro h' tk' hn' hs
  exact hq h' tk' (fun b o hb ho => (hs.2 b hb).trans ho) hn'
end
end XV
namespace L2
open PySem PySem.Spec PyProof.Rows XV
/-- what the written part says of an own exception class with an own __init__ -/
structure OexG (K : PySem.W.Frag) (C : Addr) : Prop where
  cls : ∃ B nid iid tail nm q N bs bm sn sub ab col dd k0 k1 k2 k3 k5, ExcBaseFacts B nid iid tail ∧ TailOk tail ∧ K.lookup C = some (excClassObj nm q C N bs bm true sn sub ab col dd k0 k1 k2 k3 k5 nid) ∧ refsT tail bm = true
  sa : PySem.W.findIn K (.ref C) "__setattr__" = some (some (.builtin "object.__setattr__"))
  exC : PySem.W.subIn K (.ref C) (.type "BaseException") = some true
  tyC : PySem.W.typeIn K (.ref C) = some (.type "type")
  kC : PySem.W.keepIn K (.ref C) = true
section
variable {X : Cx} {pins : List (Addr × Obj)} {σ : St} {H : Hp} {s : Shared} {a C dx : Addr} {f : Str} {y : V} {u : Value} {fs : List (Str × V)} {Q : Unit → Shared → Prop} {E : Value → Shared → Prop} {A : Around}
theorem ostG_new (T : OexG X.K C) (I : Inv X pins σ H s) (e : H a = some (exo a C none)) (hno : PySem.W.findIn X.K (.ref C) f = some none) (ry : RelV y u)
    (h : ∀ dx s', H dx = none → dx ≠ a → Inv X pins σ (upd (upd H dx (exd dx [(f, y)])) a (exo a C (some dx))) s' → Q () s') : wpAny (model X.prog X.w) A (setAttr (.ref a) f u) Q E s := by
  obtain ⟨B, nid, iid, tail, nm, q, N, bs, bm, sn, sub, ab, col, dd, k0, k1, k2, k3, k5, _, TO, hC, hbm⟩ := T.cls
  have hcl : PySem.W.clsIn X.K C = some { name := nm, bases := bs, mro := .ref C :: bm, ns := N, qualname := q, hasDict := true, slotNames := sn, subclasses := sub, abstract := ab, collection := col, hasDel := false } := by unfold PySem.W.clsIn; rw [hC] <;> rfl
  obtain ⟨t1, ho⟩ := exo_at I.hok e
  obtain ⟨hp, g, d, t, os⟩ := s
  refine PySem.W.set_plain I.kIn (ox := { cls := .ref C, dict := none, data := .fields #[.ref t1, .none, .none, .none, .bool false, .none] }) (od := none) ⟨ho, rfl, rfl, trivial⟩ T.sa ?_
  refine exc_osaT TO I.kIn ho hcl (show refsT tail (.ref C :: bm) = true from hbm) rfl hno (fun h' tk' dx k dn dne hx hn => ?_)
  have hnd : H dx = none := I.hok.fresh dn
  have nd : ∀ {b : Addr} {o : Obj}, hp.get? b = some o → b ≠ dx := fun {b o} q => Nat.ne_of_lt (Nat.lt_of_lt_of_le (Heap.lt_size q) dn)
  have na : ∀ {b : Addr}, H b = none → b ≠ a := fun {b} n z => by
    rw [z, e] at n
    cases n
  have Un1 : Un X.fs [] H (upd (upd H dx (exd dx [(f, y)])) a (exo a C (some dx))) hp h' := {
    keep := fun b o q n _ _ => k b o (na n) q
    slot := fun b o q n _ _ => ⟨o.slots, k b o (na n) q⟩
    free := fun b o q n _ => by rw [upd_ne (na n), upd_ne (nd q)]; exact n
    there := fun b o q _ => by
      by_cases hb : b = a
      · exact ⟨_, by rw [hb]; exact hx⟩
      · exact ⟨o, k b o hb q⟩
    tups := fun b xs q => by rw [upd_ne (at_ne e q exo_tup), upd_ne (ne_of_none q hnd)]; exact q
    frzs := fun b o v q => by rw [upd_ne (at_ne e q exo_frz), upd_ne (ne_of_none q hnd)]; exact q
    tbls := fun b ps q => ⟨#[], by rw [upd_ne (at_ne e q exo_tbl), upd_ne (ne_of_none q hnd), q]; simp⟩ }
  refine h dx _ hnd dne (I.un (t' := tk') Un1 fun b o q => ?_)
  by_cases hb : b = a
  · subst hb
    rw [upd_same] at q
    cases q
    exact exo_ok hx
  · rw [upd_ne hb] at q
    by_cases hd : b = dx
    · subst hd
      rw [upd_same] at q
      cases q
      exact exd_ok hn (relO_put (fs := []) ry fun g => True.intro)
    · rw [upd_ne hd] at q
      exact (I.hok b o q).stay (fun c v hc z => k c v (by
          rcases hc with hc | hc
          · rw [hc]
            exact hb
          · exact at_ne e hc exo_own) z)
        (fun c hc => by rw [upd_ne (at_ne e hc exo_own), upd_ne (ne_of_none hc hnd)]; exact hc) (fun c xs hc => by rw [upd_ne (at_ne e hc exo_tup), upd_ne (ne_of_none hc hnd)]; exact hc)
theorem ostG_old (T : OexG X.K C) (I : Inv X pins σ H s) (e : H a = some (exo a C (some dx))) (ed : H dx = some (exd dx fs)) (hl : fs.length ≤ 900) (hno : PySem.W.findIn X.K (.ref C) f = some none) (ry : RelV y u)
    (h : ∀ s', Inv X pins σ (upd H dx (exd dx ((f, y) :: fs))) s' → Q () s') : wpAny (model X.prog X.w) A (setAttr (.ref a) f u) Q E s := by
  obtain ⟨B, nid, iid, tail, nm, q, N, bs, bm, sn, sub, ab, col, dd, k0, k1, k2, k3, k5, _, TO, hC, hbm⟩ := T.cls
  have hcl : PySem.W.clsIn X.K C = some { name := nm, bases := bs, mro := .ref C :: bm, ns := N, qualname := q, hasDict := true, slotNames := sn, subclasses := sub, abstract := ab, collection := col, hasDel := false } := by unfold PySem.W.clsIn; rw [hC] <;> rfl
  obtain ⟨t1, ho⟩ := exo_at I.hok e
  obtain ⟨mA, hns, rel⟩ := exd_at I.hok ed
  have hw := within_of rel
  obtain ⟨hp, g, d, t, os⟩ := s
  obtain ⟨oD, _, _, hoD, _, _⟩ := hns.count hw
  refine PySem.W.set_plain I.kIn (ox := { cls := .ref C, dict := some dx, data := .fields #[.ref t1, .none, .none, .none, .bool false, .none] }) (od := some oD) ⟨ho, rfl, rfl, hoD⟩ T.sa ?_
  refine osa_oldT TO I.kIn ho hns hw (by rw [List.length_map]; omega) hcl (show refsT tail (.ref C :: bm) = true from hbm) rfl hno (fun h' tk' k hn => ?_)
  have hd : ∃ o, h'.get? dx = some o := by
    obtain ⟨o, _, _, e', _⟩ := hn
    exact ⟨o, e'⟩
  exact h _ (I.write (t' := tk') (x := dx) (e := dx) (o := exd dx ((f, y) :: fs)) (by rw [ed]; exact True.intro) (.inl rfl) k hd (exd_ok hn (relO_put ry rel)))
end
/-- self.f = e -/
def tOstG (K : PySem.W.Frag) (f : Str) (to te : TE) : TS := fun D σ H => te σ H fun y H1 => to σ H1 fun x H2 => ∃ a C : Addr, x = .ref a ∧ OexG K C ∧ PySem.W.findIn K (.ref C) f = some none ∧
  ((H2 a = some (exo a C none) ∧ ∀ dx, H2 dx = none → dx ≠ a → D.nx σ (upd (upd H2 dx (exd dx [(f, y)])) a (exo a C (some dx)))) ∨
    ∃ (dx : Addr) (fs : List (Str × V)), H2 a = some (exo a C (some dx)) ∧ H2 dx = some (exd dx fs) ∧ fs.length ≤ 900 ∧ D.nx σ (upd H2 dx (exd dx ((f, y) :: fs))))
/-- e.f -/
def tXo (K : PySem.W.Frag) (f : Str) (te : TE) : TE := fun σ H Q => te σ H fun x H1 => ∃ (a C dx : Addr) (fs : List (Str × V)) (v : V), x = .ref a ∧ H1 a = some (exo a C (some dx)) ∧ H1 dx = some (exd dx fs) ∧ XfC K C ∧ PySem.W.findIn K (.ref C) f = some none ∧ fs.lookup f = some v ∧ Q v H1
/-- C(..), its own __init__ walked -/
def tMkG (C : Addr) (n : Nat) (sp : Sp) (gV : List V → List V → List V) (ta tk : TA) : TE := fun σ H Q => ta σ H fun vs H1 => tk σ H1 fun zs H2 => vs.length = n ∧ zs.length ≤ 1000 ∧ vs.length ≤ 1000 ∧ ∀ a, H2 a = none → sp (gV (.ref a :: vs) zs) (upd H2 a (exo a C none)) (fun v H3 => v = .non ∧ Q (.ref a) H3) E0
section
variable {X : Cx} {o e : Expr} {es : List Expr} {to te : TE} {ta : TA} {f : Str} {p p' p1 p2 pos : Pos}
theorem ps_ostG (ho : PE X o to) (he : PE X e te) (hs : swapsWith e (some (.Attribute o f p')) pos.line X.env = pure false := by rfl) : PS X (.Assign [.Attribute o f p'] e pos) (tOstG X.K f to te) := by
  refine ⟨fun pins s σ H D I h => ?_⟩
  refine plainObj_wpAny_Assign_Attribute (thn (he.run pins s σ H _ I h) fun v s1 ⟨y, H1, I1, r1, q1⟩ => thn (ho.run pins s1 σ H1 _ I1 q1) fun u s2 ⟨x, H2, I2, r2, a, C, ex, T, hno, q⟩ => ?_) hs
  subst ex
  obtain rfl : u = Value.ref a := r2
  rcases q with ⟨ea, q⟩ | ⟨dx, fs, ea, ed, hl, q⟩
  · exact ostG_new T I2 ea hno r1 fun dx s' n ne J => ⟨σ, _, J, q dx n ne⟩
  · exact ostG_old T I2 ea ed hl hno r1 fun s' J => ⟨σ, _, J, q⟩
theorem pe_xo (he : PE X e te) (hb : attributeBase e f X.env (eval e X.env) = eval e X.env := by rfl) : PE X (.Attribute e f pos) (tXo X.K f te) := by
  refine ⟨fun pins s σ H Q I h => ?_⟩
  refine attr_of hb (thn (he.run pins s σ H _ I h) fun u s1 hh => ?_)
  obtain ⟨x, H1, I1, rx, a, C, dx, fs, v, ex, ea, ed, T, hno, l, q⟩ := hh
  subst ex
  obtain rfl : u = Value.ref a := rx
  obtain ⟨t1, ho⟩ := exo_at I1.hok ea
  obtain ⟨mA, hns, hr⟩ := exd_at I1.hok ed
  obtain ⟨od, hod, hl⟩ := lookIn_ns hns
  obtain ⟨u, hu, ru⟩ := RelO.some_of (v := v) (o := mA f) (by rw [← l]; exact hr f)
  have J : PySem.W.InstAt s1.heap a ({ cls := .ref C, dict := some dx, data := .fields #[.ref t1, .none, .none, .none, .bool false, .none] } : Obj) C (some od) := ⟨ho, rfl, rfl, hod⟩
  exact HandSPX.exc_get I1.kIn J T.ga T.gg T.exC (PySem.W.findObj_own T.hdC hno rfl (by rw [hl, hu])) (handed_of ru) ⟨v, H1, I1.tok _, ru, q⟩
end
/-- the class of an own exception, so that isinstance asks its instances rightly -/
structure XisC (K : PySem.W.Frag) (D : Addr) : Prop where
  hc : (PySem.W.clsIn K D).isSome = true
  hg : PySem.W.findIn K (.ref D) "__getattribute__" = some (some (.builtin "BaseException.__getattribute__"))
  hk : PySem.W.findIn K (.ref D) "__getattr__" = some none
  hs : PySem.W.subIn K (.ref D) (.type "BaseException") = some true
  ha : PySem.W.findIn K (.ref D) "__class__" = some (some (.builtin "object.__class__"))
  hn : PySem.W.specialIn K (.builtin "object.__class__") "__get__" = some (some (.builtin "getset_descriptor.__get__"))
  ht : PySem.W.takesIn K (.builtin "object.__class__") = some true
  hm : PySem.W.mroIn K D (.type "object") = some true
/-- isinstance(e, c), e an own exception -/
def rIsX (K : PySem.W.Frag) : List V → Hp → VK → Prop := fun xs H Q => ∃ (a D dx : Addr) (fs : List (Str × V)) (c : V) (u : Value) (b : Bool), xs = [.ref a, c] ∧ ClsV c u ∧ H a = some (exo a D (some dx)) ∧ H dx = some (exd dx fs) ∧ XisC K D ∧ PySem.W.kitOne K (.ref D) u = some b ∧ Q (.bl b) H
theorem call_isX {X : Cx} : CallR X (.builtin "isinstance") (rIsX X.K) := by
  intro pins s σ H xs us Q I r h
  obtain ⟨a, D, dx, fs, c, u, b, rfl, k, ea, ed, C, e, q⟩ := h
  obtain ⟨u1, u2, rfl, r1, r2⟩ := vals2 r
  have e2 := k.eq r2
  subst e2
  obtain rfl : u1 = Value.ref a := r1
  obtain ⟨t1, ho⟩ := exo_at I.hok ea
  obtain ⟨mA, hns, _⟩ := exd_at I.hok ed
  obtain ⟨od, hod, _⟩ := lookIn_ns hns
  have J : PySem.W.InstAt s.heap a ({ cls := .ref D, dict := some dx, data := .fields #[.ref t1, .none, .none, .none, .bool false, .none] } : Obj) D (some od) := ⟨ho, rfl, rfl, hod⟩
  exact PySem.W.kia_one (PySem.W.kitx_exc C.hc C.hg C.hk C.hs C.ha C.hn C.ht C.hm) I.kIn J e (fun z => nomatch z) fun tk => ⟨.bl b, H, I.tok tk, rfl, q⟩
end L2
namespace PySem
namespace XVK
open HandSPX Builtin Builtin.ObjectAttr
section
variable {M : Model} {A : Around} {E : Value → Shared → Prop} {h : Heap} {g : Array GenState} {d : Drawn} {t : Nat} {os : OsState}
variable {nm q : Str} {C N : Addr} {bs bm bmB : List Value} {hdct : Bool} {sn : List Str} {sub : List Value} {ab : Bool} {col : Option Bool} {dd : Option Addr} {k0 k1 k2 k3 k5 : Option Value} {B newId initId : String}
theorem check_type_call_subK {M : Model} {rest : List Value} {kw : List (Str × Value)} {Q : Unit → Shared → Prop} (hC : h.get? C = some (excClassObj nm q C N bs bm hdct sn sub ab col dd k0 k1 k2 k3 k5 newId))
    (hq : Q () ⟨h, g, d, t, os⟩) : wpAny M A (checkBuiltinCall "type.__call__" ⟨.ref C :: rest, kw⟩) Q E ⟨h, g, d, t, os⟩ := by
  have f3 := tc_sub
  have hT : (⟨h, g, d, t, os⟩ : Shared).TypeIs (.ref C) "type" := ⟨_, hC, rfl⟩
  simp only [checkBuiltinCall, tc_kind, tc_split]
  repeat (any_goals (first | assumption | with_reducible refine wpAny_loadPart_at hC ?_ | with_reducible refine wpAny_onRaise ?_ | with_reducible refine wpAny_map ?_ | wp_step))
theorem check_new_ownK (F : ExcBaseFacts B newId initId bmB) (hT : ∀ X : String, bm.contains (.type X) = bmB.contains (.type X)) {rest : List Value} {kw : List (Str × Value)} {Q : Unit → Shared → Prop}
    (hC : h.get? C = some (excClassObj nm q C N bs bm hdct sn sub ab col dd k0 k1 k2 k3 k5 newId)) (hq : Q () ⟨h, g, d, t, os⟩) : wpAny M A (checkBuiltinCall newId ⟨.ref C :: rest, kw⟩) Q E ⟨h, g, d, t, os⟩ := by
  have hcont : (Value.ref C :: bm).contains (.type B) = true := by rw [List.contains_cons, hT, F.hasB, Bool.or_true]
  have hstar := F.noStar
  simp only [checkBuiltinCall, F.newKind, F.newSplit, F.newRow]
  repeat (first | refine wpAny_loadPart_at hC ?_ | (refine wpAny_isSubtype_exc hC ?_; rw [hcont]) | refine wpAny_staticBase_exc hC ?_ | refine wpAny_madeBy_exc hC ?_ | simp only [bne_self_eq_false, Bool.false_eq_true, if_false] | wp_step)
  exact hq
end
section
variable {prog : Program} {w : World} {A : Around} {E : Value → Shared → Prop} {R : Result → Shared → Prop} {h : Heap} {g : Array GenState} {d : Drawn} {t : Nat} {os : OsState}
variable {nm q : Str} {C N : Addr} {bs bm bmB : List Value} {hdct : Bool} {sn : List Str} {sub : List Value} {ab : Bool} {col : Option Bool} {dd : Option Addr} {k0 k1 k2 k3 k5 : Option Value} {B newId initId : String}
theorem new_ownK (F : ExcBaseFacts B newId initId bmB) (hT : ∀ X : String, bm.contains (.type X) = bmB.contains (.type X)) {rest : List Value} {kw : List (Str × Value)}
    (hC : h.get? C = some (excClassObj nm q C N bs bm hdct sn sub ab col dd k0 k1 k2 k3 k5 newId))
    (hq : R (.ok (.ret (.ref (h.objs.size + 1)))) ⟨(h.push { cls := .type "tuple", data := .seq rest.toArray }).push
      { cls := .ref C, data := .fields #[.ref h.objs.size, .none, .none, .none, .bool false, .none] }, g, d, t, os⟩) (hrest : rest.length ≤ sizeLine) :
    codeAny (model prog w) A (.builtin newId ⟨.ref C :: rest, kw⟩) R ⟨h, g, d, t, os⟩ := by
  have hends := F.ends
  have hcB : (Value.ref C :: bm).contains (.type B) = true := by rw [List.contains_cons, hT, F.hasB, Bool.or_true]
  have hcA : (Value.ref C :: bm).contains (.type "AttributeError") = false := by rw [List.contains_cons, hT, F.noAttr]; rfl
  have hcN : (Value.ref C :: bm).contains (.type "NameError") = false := by rw [List.contains_cons, hT, F.noName]; rfl
  refine codeAny_builtinAt F.entry ?_
  unfold Builtin.«BaseException.__new__»
  refine wpAt_bind ?_
  show wpAt _ _ _ (stack >>= _) _ _ _
  refine wpAt_bind (wpAt_stack fun p below => wpAt_of_wpAny ?_)
  wp_walk
  refine wpAt_of_wpAny ?_
  rw [F.owner]
  repeat (first | with_reducible refine wpAny_madeHere_exc F.canon hC ?_ | with_reducible refine wpAny_loadPart_at hC ?_ | (with_reducible refine wpAny_isSubtype_exc hC ?_; first | rw [hcB] | rw [hcA] | rw [hcN]) | wp_step)
  show R _ _
  rw [Heap.size_push]
  exact hq

theorem type_call_ownK (F : ExcBaseFacts B newId initId bmB) (hT : ∀ X : String, bm.contains (.type X) = bmB.contains (.type X)) {rest : List Value} {kw : List (Str × Value)} {fI : Addr} {Q : Fin → Shared → Prop}
    (hC : h.get? C = some (excClassObj nm q C N bs bm hdct sn sub ab col dd k0 k1 k2 k3 k5 newId))
    (hi : W.Looks (model prog w) h (typeLookup (.ref C) "__init__") (some (.ref fI))) (hb : ∀ self, W.Looks (model prog w) h (bindSpecial (.ref fI) self) (.ref fI, [self])) (hrest : rest.length ≤ sizeLine)
    (hq : codeAny (model prog w) A (.call (.ref fI) ⟨.ref (h.objs.size + 1) :: rest, kw⟩)
      (fun r s' => match r with | .ok (.ret v) => v = .none ∧ Q (.done (.ret (.ref (h.objs.size + 1)))) s' | .ok _ => False | .error e => E e s')
      ⟨(h.push (W.kdv_tup rest)).push (excO C h.objs.size), g, d, t, os⟩) :
    wpAny (model prog w) A (Builtin.«type.__call__» ⟨.ref C :: rest, kw⟩) Q E ⟨h, g, d, t, os⟩ := by
  repeat (first | with_reducible refine wpAny_loadPart_at hC ?_ | with_reducible refine wpAny_madeBy_exc hC ?_ | wp_step)
  refine codeAny_call_builtin_code (Code.quiet_builtin _ F.quiet) (check_new_ownK F hT hC ?_)
  refine new_ownK F hT hC ?_ hrest
  show wpAny _ _ _ _ _ _
  have k : ∀ b o, h.get? b = some o → ((h.push (W.kdv_tup rest)).push (excO C h.objs.size)).get? b = some o := fun b o e => Heap.get?_push_of_some _ (Heap.get?_push_of_some _ e)
  have hC₁ := k _ _ hC
  have hget : ((h.push (W.kdv_tup rest)).push (excO C h.objs.size)).get? (h.objs.size + 1) = some (excO C h.objs.size) := by heap_get
  have hcC : (Value.ref C :: bm).contains (.ref C) = true := by simp
  have i1 := hi.keeps k
  have b1 := (hb (.ref (h.objs.size + 1))).keeps k
  unfold isInstance
  repeat (first | with_reducible refine wpAny_loadPart_at hget ?_ | (with_reducible refine wpAny_isSubtype_exc hC₁ ?_; rw [hcC]) | wp_step)
  show wpAny _ _ (typeLookup (.ref C) _) _ _ _
  refine i1.at ?_
  refine wpAny_holding (wpAny_bind (b1.at ?_))
  refine wpAny_bind (wpAny_call (codeAny_mono hq fun r s' z => ?_))
  rcases r with e | (v | _ | _ | _) <;> first | exact z | exact z.elim | skip
  obtain ⟨rfl, z⟩ := z
  first
    | exact wpAny_pure (wpAny_pure z)
    | (wp_walk; exact z)

theorem call_ownK (F : ExcBaseFacts B newId initId bmB) (hT : ∀ X : String, bm.contains (.type X) = bmB.contains (.type X)) {rest : List Value} {kw : List (Str × Value)} {fI : Addr}
    (hC : h.get? C = some (excClassObj nm q C N bs bm hdct sn sub ab col dd k0 k1 k2 k3 k5 newId))
    (hi : W.Looks (model prog w) h (typeLookup (.ref C) "__init__") (some (.ref fI))) (hb : ∀ self, W.Looks (model prog w) h (bindSpecial (.ref fI) self) (.ref fI, [self])) (hrest : rest.length ≤ sizeLine)
    (hq : codeAny (model prog w) (A.under (.builtin "type.__call__" ⟨.ref C :: rest, kw⟩)) (.call (.ref fI) ⟨.ref (h.objs.size + 1) :: rest, kw⟩) (W.InitBack (h.objs.size + 1) R)
      ⟨(h.push (W.kdv_tup rest)).push (excO C h.objs.size), g, d, t, os⟩) :
    codeAny (model prog w) A (.call (.ref C) ⟨rest, kw⟩) R ⟨h, g, d, t, os⟩ := by
  have f1 := tc_lookup
  have f2 := tc_bind (.ref C)
  have hTy : (⟨h, g, d, t, os⟩ : Shared).TypeIs (.ref C) "type" := ⟨_, hC, rfl⟩
  refine codeAny_of_tree ?_
  show wpAny _ _ (callAny (.ref C) _) _ _ _
  repeat (any_goals (first | assumption | with_reducible refine wpAny_loadPart_at hC ?_ | wp_step))
  refine ⟨rfl, ?_⟩
  refine codeAny_call_builtin_at (Code.quiet_builtin _ (by decide +kernel)) entry_typeCall (check_type_call_subK hC (type_call_ownK F hT hC hi hb hrest ?_))
  refine codeAny_mono hq fun r s' z => ?_
  rcases r with e | (v | _ | _ | _) <;> exact z

end
end XVK
end PySem
namespace L2
open PySem PySem.Spec PyProof.Rows XV
/-- C(..), its own __init__ walked -/
def tMkN (C : Addr) (n m : Nat) (sp : Sp) (gV : List V → List V → List V) (ta tk : TA) : TE := fun σ H Q => ta σ H fun vs H1 => tk σ H1 fun zs H2 => vs.length = n ∧ zs.length = m ∧ n ≤ 1000 ∧ ∀ a, H2 a = none → sp (gV (.ref a :: vs) zs) (upd H2 a (exo a C none)) (fun v H3 => v = .non ∧ Q (.ref a) H3) E0
section
variable {X : Cx} {C fI : Addr} {k n : Nat} {fd : FuncData} {ps ks : List Str} {sp : Sp} {g : List Value → List Value → List Value} {gV : List V → List V → List V}
theorem run_mkG {pins : List (Addr × Obj)} {σ : St} {H : Hp} {s : Shared} {Q : VK} {us ws : List Value} {vs zs : List V} (T : OexG X.K C) (iC : PySem.W.findIn X.K (.ref C) "__init__" = some (some (.ref fI))) (tI : PySem.W.typeIn X.K (.ref fI) = some (.type "function"))
    (F1 : FnOk X.prog X.w X.K X.mg X.base CX0 k fI fd ps sp) (hr : Room (k + 1) X.A) (hb : KBn X.K fd ps (n + 1) ks g gV) (I : Inv X pins σ H s) (r : Vals vs us) (rz : Vals zs ws) (l1 : vs.length = n) (l2 : zs.length = ks.length) (hn : n ≤ 1000)
    (h : ∀ a, H a = none → sp (gV (.ref a :: vs) zs) (upd H a (exo a C none)) (fun v H3 => v = .non ∧ Q (.ref a) H3) E0) : wpAny (model X.prog X.w) X.A (call (.ref C) us (ks.zip ws)) (EP X pins σ Q) X.xe s := by
  obtain ⟨B, nid, iid, tail, nm, q, N, bs, bm, sn, sub, ab, col, dd, k0, k1, k2, k3, k5, FB, TO, hC, hbm⟩ := T.cls
  obtain ⟨hp, gg, dr, tk, os⟩ := s
  have hsz : hp.objs.size ≤ hp.objs.size + 1 := Nat.le_succ _
  have hn0 : H (hp.objs.size + 1) = none := I.hok.fresh hsz
  have hq := h (hp.objs.size + 1) hn0
  have kk : ∀ b o, hp.get? b = some o → ((hp.push (PySem.W.kdv_tup us)).push (PySem.HandSPX.excO C hp.objs.size)).get? b = some o := fun b o e => Heap.get?_push_of_some _ (Heap.get?_push_of_some _ e)
  have hget : ((hp.push (PySem.W.kdv_tup us)).push (PySem.HandSPX.excO C hp.objs.size)).get? (hp.objs.size + 1) = some (PySem.HandSPX.excO C hp.objs.size) := by heap_get
  have I2 : Inv X pins σ (upd H (hp.objs.size + 1) (exo (hp.objs.size + 1) C none)) ⟨(hp.push (PySem.W.kdv_tup us)).push (PySem.HandSPX.excO C hp.objs.size), gg, dr, tk, os⟩ :=
    I.laid (t' := tk) (a := hp.objs.size + 1) (o := exo (hp.objs.size + 1) C none) (h' := (hp.push (PySem.W.kdv_tup us)).push (PySem.HandSPX.excO C hp.objs.size)) kk hsz (exo_ok hget)
  have r1 : Vals (V.ref (hp.objs.size + 1) :: vs) (Value.ref (hp.objs.size + 1) :: us) := .cons rfl r
  have r2 := hb.rel r1 rz
  have e1 : (Value.ref (hp.objs.size + 1) :: us).length = n + 1 := r1.length.symm.trans (congrArg Nat.succ l1)
  have e2 : ws.length = ks.length := rz.length.symm.trans l2
  have hus : us.length ≤ sizeLine := by
    rw [← Paired.length r, l1, sizeLine_eq]
    omega
  refine wpAny_call (PySem.XVK.call_ownK FB (fun Y => refsT_contains TO Y bm hbm) (I.kIn _ _ hC) (PySem.W.looks_findIn I.kIn iC) (fun self => PySem.W.bind_fn I.kIn self tI) hus
    (codeAny_mono (F1.run _ X.stack _ _ ⟨Value.ref (hp.objs.size + 1) :: us, ks.zip ws⟩ (g (Value.ref (hp.objs.size + 1) :: us) ws) _ _ E0 (hr.make C us (ks.zip ws)) (I2.env0.make C us (ks.zip ws)) (hb.to _ (Value.ref (hp.objs.size + 1) :: us) ws I2.kIn e1 e2) r2 hq) fun r s' hq' => ?_))
  cases r with
  | error er => exact pass0 pins σ _ _ er s' I2 hq'
  | ok fl =>
    cases fl with
    | ret u =>
      obtain ⟨v, H', I3, rv, ev, q3⟩ := I2.after hq'
      subst ev
      exact ⟨rv, ⟨V.ref (hp.objs.size + 1), H', I3, rfl, q3⟩⟩
    | next => exact False.elim hq'
    | brk => exact False.elim hq'
    | cont => exact False.elim hq'
/-- a class to be made: where it stands, its __init__ -/
structure Xm (P : Program) (w : World) (K : PySem.W.Frag) (mg : Str → Option Value) (base : Heap) (C : Addr) (k : Nat) (fI : Addr) (fd : FuncData) (x : Str) (ps : List Str) (sp : Sp) : Prop where
  T : OexG K C
  iC : PySem.W.findIn K (.ref C) "__init__" = some (some (.ref fI))
  tI : PySem.W.typeIn K (.ref fI) = some (.type "function")
  ok : FnOk P w K mg base CX0 k fI fd ps sp
  m : mg x = some (.ref C)
theorem pe_mkG {x : Str} {e : Expr} {es : List Expr} {ta : TA} {p pos : Pos} (M : Xm X.prog X.w X.K X.mg X.base C k fI fd x ps sp) (hr : Room (k + 1) X.A) (hg : Gl X x) (hb : KBn X.K fd ps (n + 1) [] g gV) (ha : PA X (e :: es) ta)
    (hdb : (x == ("__debug__" : Str)) = false := by decide) (he : starEach (e :: es) X.env = (false, eval e X.env) :: starEach es X.env := by rfl) (hpl : (backTo pos (starEach es X.env)).any (·.1) = false := by rfl) :
    PE X (.Call (.Name x p) (e :: es) [] pos) (tMkN C n 0 sp gV ta tNil) := by
  refine ⟨fun pins s σ H Q I h => ?_⟩
  refine wpAny_Call_Name_kw (ld_glob I hg M.m ?_ hdb)
  refine PySem.W.callWith_K (h₀ := X.base) I.ok.mod.kin M.T.kC (thn (ha.run pos pins s σ H _ I h) fun us s1 ⟨vs, H1, I1, r, q⟩ => ⟨I1.kIn, ?_⟩) he hpl
  obtain ⟨l1, l2, l3, q⟩ := q
  exact run_mkG (us := us) (ws := []) (vs := vs) (zs := []) M.T M.iC M.tI M.ok hr hb I1 r .nil l1 rfl l3 q
theorem pe_mkG0 {x : Str} {p pos : Pos} (M : Xm X.prog X.w X.K X.mg X.base C k fI fd x ps sp) (hr : Room (k + 1) X.A) (hg : Gl X x) (hb : KBn X.K fd ps 1 [] g gV) (hdb : (x == ("__debug__" : Str)) = false := by decide) :
    PE X (.Call (.Name x p) [] [] pos) (tMkN C 0 0 sp gV tNil tNil) := by
  refine ⟨fun pins s σ H Q I h => ?_⟩
  refine wpAny_Call_Name_kw (ld_glob I hg M.m ?_ hdb)
  obtain ⟨l1, l2, l3, q⟩ := h
  exact PySem.W.callWith_K0 I.kIn M.T.kC (run_mkG (us := []) (ws := []) (vs := []) (zs := []) M.T M.iC M.tI M.ok hr hb I .nil .nil rfl rfl l3 q)
theorem pe_mkGK {x : Str} {kws : List Keyword} {tk : TA} {p pos : Pos} (M : Xm X.prog X.w X.K X.mg X.base C k fI fd x ps sp) (hr : Room (k + 1) X.A) (hg : Gl X x) (hb : KBn X.K fd ps 1 ks g gV) (hkw : PK X kws tk)
    (hall : (backToKw pos (keywordEach kws X.env)).all (·.1.isSome) = true := by rfl) (hks : (backToKw pos (keywordEach kws X.env)).filterMap (·.1) = ks := by rfl) (hdb : (x == ("__debug__" : Str)) = false := by decide)
    (hpl : ((backTo pos (starEach [] X.env)).any (·.1) || (backToKw pos (keywordEach kws X.env)).any (·.1.isNone)) = false := by rfl) :
    PE X (.Call (.Name x p) [] kws pos) (tMkN C 0 ks.length sp gV tNil tk) := by
  refine ⟨fun pins s σ H Q I h => ?_⟩
  refine wpAny_Call_Name_kw (ld_glob I hg M.m ?_ hdb)
  refine PySem.W.callWith_KW0 (h₀ := X.base) I.ok.mod.kin M.T.kC hall ?_ hpl
  refine thn (hkw.run pos pins s σ H _ I h) fun ws s2 ⟨zs, H2, I2, rz, l1, l2, l3, q⟩ => ⟨I2.kIn, ?_⟩
  rw [hks]
  exact run_mkG (us := []) (ws := ws) (vs := []) (zs := zs) M.T M.iC M.tI M.ok hr hb I2 .nil rz rfl l2 l3 q
end
end L2
/-! ### own exceptions raised and caught: a tuple of classes with a name, the caught one handed to a def -/
namespace ExR
open PySem PySem.Spec PyProof.Rows L2
section
variable {X : Cx}
/-- raise of an expression that makes an own exception (with its dict) -/
theorem pmk_exo {e : Expr} {te : TE} (hx : X.ex = []) (he : PE X e te) :
    PMk X e (fun σ H Q => te σ H fun x H1 => ∃ a C d, x = .ref a ∧ H1 a = some (exo a C (some d)) ∧ Fr0 X.H_0 a ∧ Raises X (.ref C) ∧ Q (.ref C) (some d) (delH H1 a)) := by
  intro pins s σ H Q I h
  refine wpAny_mono (he.run pins s σ H _ I h) (fun u s1 hu => ?_) fun _ _ x => x
  obtain ⟨v, H1, I1, r1, a, C, d, rfl, ha, h0, hr, q⟩ := hu
  cases r1
  obtain ⟨t1, ho⟩ := exo_at I1.hok ha
  obtain ⟨G, gs, ga, J⟩ := I1.untrack ha h0 hx
  exact ⟨a, _, _, { s1 with heap := G }, delH H1 a, .ref C, some d, rfl, J, gs, ga, ho, ⟨rfl, rfl⟩, rfl, rfl, delH_same, rfl, I1.bare, hr, q⟩
end
/-! a def that is handed the caught exception -/
structure FnE (P : Program) (w : World) (K : PySem.W.Frag) (mg : Str → Option Value) (base : Heap) (CX : CXT) (k : Nat) (f : Addr) (fd : FuncData) (ps : List Str) (sp : Addr → Value → Option Addr → Sp) : Prop where
  len : ∀ a cls d vs H Q E, sp a cls d vs H Q E → vs.length = ps.length
  run : ∀ (A : Around) (outer : List Env) (s : Shared) (H : Hp) (args : Args) (us : List Value) (vs : List V) (Q : VK) (E : XK) (p : Addr × Obj) (cls : Value) (d : Option Addr), L2H.RoomH k A → Zc cls d p.2 → (∃ fs, p.2.data = .fields fs) → L2H.PinOk outer H s p → Env0 P w K mg base A outer s H → BindsTo s fd args (ps.zip us) → Vals vs us → sp p.1 cls d vs H Q E →
    codeAny (model P w) A (.call (.ref f) args) (CR CX outer P w H s Q E) s
theorem fn_ofE {CX : CXT} {P : Program} {w : World} {K : PySem.W.Frag} {mg : Str → Option Value} {base : Heap} {k : Nat} {f : Addr} {name qual : Str} {params : Arguments} {body : List Stmt} {scope : Scope} {dV kV doc pm cdv ct oc : Value} {an od : Option Addr}
    {osl : Array (Option Value)} {N ps : List Str} {sp : Addr → Value → Option Addr → Sp} (lk : K.lookup f = some ⟨oc, od, .func (PySem.W.fnOf name qual params body scope dV kV doc pm an cdv ct), osl⟩) (hcd : PySem.W.codeIn K cdv qual = true) (S : FnScope N ps scope)
    (len : ∀ a cls d vs H Q E, sp a cls d vs H Q E → vs.length = ps.length)
    (hbody : ∀ (A : Around) (outer : List Env) (s : Shared) (H : Hp) (vs : List V) (Q : VK) (E : XK) (p : Addr × Obj) (cls : Value) (d : Option Addr), Zc cls d p.2 → (∃ fs, p.2.data = .fields fs) → L2H.RoomH k (A.deeper (envOfC qual scope s.heap.objs.size f cdv)) → sp p.1 cls d vs H Q E →
      ∃ t, PSs (L2H.cxH CX P w K mg base N qual scope f cdv A outer s H E p) body t ∧ t { nx := fun _ H' => Q .non H', rt := Q } (L2.start N vs) H) :
    FnE P w K mg base CX (k + 1) f (PySem.W.fnOf name qual params body scope dV kV doc pm an cdv ct) ps sp := by
  refine ⟨len, fun A outer s H args us vs Q E p cls d hr hz hfd hpin e0 hb r hsp => ?_⟩
  have hl := len _ _ _ _ _ _ _ hsp
  have KX : K.In s.heap := e0.mod.kin.keeps fun b o e => (e0.bs b o e).1
  have lim : s.heap.NoLimit := e0.mod.nolimit.keeps fun b o e => (e0.bs b o e).1
  have hkind : ∀ y ∈ ps.zip us, scope.names.lookup y.1 = some .local ∨ (scope.names.lookup y.1 = some .cell ∧ ((cellsFrom (s.heap.objs.size + 1) scope.names []).lookup y.1).isSome = true) := fun ⟨n, v⟩ hy => by
    rcases S.par n (List.of_mem_zip hy).1 with q | q
    · exact .inl q
    · exact .inr ⟨q, PySem.W.cellsFrom_some _ _ _ (.inl q)⟩
  refine codeAny_call_function hr.depth (KX _ _ lk) rfl S.co S.gen rfl (PySem.W.codeRec_of KX hcd) (hb _ _ _ _ ?_)
  refine wpAny_newFunctionEnv_cells S.kind hkind fun env he s1 x => ?_
  subst he
  refine ⟨lim.keeps x.toInCall.keep, codeAny_func ?_⟩
  obtain ⟨t, ht, hq⟩ := hbody A outer s H vs Q E p cls d hz hfd (hr.deeper _) hsp
  have I : Inv (L2H.cxH CX P w K mg base N qual scope f cdv A outer s H E p) [] (L2.start N vs) H s1 := L2H.inv_startH S hpin e0 hl r x
  refine wpAny_mono (ht.run [] s1 (L2.start N vs) H _ I hq) (fun fl s' hs => ?_) fun e s' hs => hs
  have fin : ∀ {σ' : L2.St} {H' : Hp} {v : V} {u : Value}, Inv (L2H.cxH CX P w K mg base N qual scope f cdv A outer s H E p) [] σ' H' s' → RelV v u → Q v H' → CE outer P w H s Q u s' :=
    fun {σ' H' v u} J rv q => ⟨v, H', J.os, J.bare, J.base, J.hok, rv, q⟩
  cases fl with
  | ret u =>
    obtain ⟨v, σ', H', J, rv, q⟩ := hs
    exact fin J rv q
  | next =>
    obtain ⟨σ', H', J, q⟩ := hs
    exact fin (v := V.non) (u := Value.none) J rfl q
  | brk =>
    obtain ⟨_, _, _, q⟩ := hs
    exact False.elim q
  | cont =>
    obtain ⟨_, _, _, q⟩ := hs
    exact False.elim q
/-- the context bears the caught exception p -/
structure Bears (X : Cx) (p : Addr × Obj) (cls : Value) (d : Option Addr) : Prop where
  pn : p ∈ X.pn
  z : Zc cls d p.2
  fs : ∃ fs, p.2.data = .fields fs
section
variable {X : Cx} {CX : CXT} {k : Nat} {f C : Addr} {fd : FuncData} {ps : List Str} {sp : Addr → Value → Option Addr → Sp} {E : XK} {x : Str} {q pos apos : Pos} {e : Expr} {es : List Expr} {ta : TE} {t : TA} {p : Addr × Obj} {cls : Value} {d : Option Addr}
/-- f(e, ..) beside a caught exception -/
theorem pe_callE (F : FnE X.prog X.w X.K X.mg X.base CX k f fd ps sp) (hr : L2H.RoomH k X.A) (B : Bears X p cls d) (hg : Gl X x) (hm : X.mg x = some (.ref f)) (hk : PySem.W.keepIn X.K (.ref f) = true) (hb : Binds X.K fd ps []) (hx : Passes CX X E)
    (ha : PA X (e :: es) t) (hdb : (x == ("__debug__" : Str)) = false := by decide) (he : starEach (e :: es) X.env = (false, eval e X.env) :: starEach es X.env := by rfl) (hpl : (backTo pos (starEach es X.env)).any (·.1) = false := by rfl) :
    PE X (.Call (.Name x q) (e :: es) [] pos) (fun σ H Q => t σ H fun vs H1 => sp p.1 cls d vs H1 Q E) := by
  refine ⟨fun pins s σ H Q I h => ?_⟩
  refine wpAny_Call_Name_kw (ld_glob I hg hm ?_ hdb)
  refine PySem.W.callWith_K (h₀ := X.base) I.ok.mod.kin hk (thn (ha.run pos pins s σ H _ I h) fun us s1 ⟨vs, H1, I1, r, q⟩ => ⟨I1.kIn, ?_⟩) he hpl
  have hl : us.length = ps.length := by rw [← r.length]; exact F.len _ _ _ _ _ _ _ q
  have b := hb s1 us I1.kIn (by rw [List.append_nil]; exact hl)
  rw [List.append_nil] at b
  have P1 := I1.pin p (List.mem_append_left _ B.pn)
  have hpin : L2H.PinOk X.stack H1 s1 p := ⟨P1.1, P1.2.1, fun hm => (List.mem_cons.mp (I1.stkSub p.1 hm)).elim P1.2.2.1 P1.2.2.2.1, P1.2.2.2.2⟩
  refine wpAny_call (codeAny_mono (F.run X.A X.stack s1 H1 ⟨us, []⟩ us vs Q E p cls d hr B.z B.fs hpin I1.env0 b r q) fun r s' hq => ?_)
  cases r with
  | error e => exact hx pins σ H1 s1 e s' I1 hq
  | ok fl =>
    cases fl with
    | ret u => exact I1.after hq
    | next => exact False.elim hq
    | brk => exact False.elim hq
    | cont => exact False.elim hq
/-- e.f, e the caught exception -/
def tXe (K : PySem.W.Frag) (a : Addr) (cls : Value) (d : Option Addr) (f : Str) (te : TE) : TE := fun σ H Q => te σ H fun x H1 => ∃ (C dd : Addr) (fs : List (Str × V)) (v : V), x = .ref a ∧ cls = .ref C ∧ XfC K C ∧ PySem.W.findIn K (.ref C) f = some none ∧ d = some dd ∧ H1 dd = some (exd dd fs) ∧ fs.lookup f = some v ∧ Q v H1
theorem pe_xe {n : Str} {te : TE} (B : Bears X p cls d) (he : PE X e te) (hb : attributeBase e n X.env (eval e X.env) = eval e X.env := by rfl) : PE X (.Attribute e n pos) (tXe X.K p.1 cls d n te) := by
  refine ⟨fun pins s σ H Q I h => ?_⟩
  refine attr_of hb (thn (he.run pins s σ H _ I h) fun u s1 hh => ?_)
  obtain ⟨x, H1, I1, rx, C, dd, fs, v, ex, ec, T, hno, ed, ea, l, q⟩ := hh
  subst ex
  obtain rfl : u = Value.ref p.1 := rx
  obtain ⟨ha, _⟩ := I1.pin p (List.mem_append_left _ B.pn)
  obtain ⟨vs, hd⟩ := B.fs
  obtain ⟨mA, hns, hr⟩ := exd_at I1.hok ea
  obtain ⟨od, ho, hl⟩ := lookIn_ns hns
  obtain ⟨u, hu, ru⟩ := RelO.some_of (v := v) (o := mA n) (by rw [← l]; exact hr n)
  have J : PySem.W.InstAt s1.heap p.1 p.2 C (some od) := ⟨ha, by rw [B.z.1, ec], by unfold PySem.W.notCls; rw [hd] <;> rfl, by rw [B.z.2, ed]; exact ho⟩
  exact HandSPX.exc_get I1.kIn J T.ga T.gg T.exC (PySem.W.findObj_own T.hdC hno rfl (by rw [hl, hu])) (handed_of ru) ⟨v, H1, I1.tok _, ru, q⟩
end
/-! except (A, B, C) as e -/
def wAs3 (K : PySem.W.Frag) (cs : List Value) (i : Nat) (ts : Addr → Value → Option Addr → TS) (Wout : WX) (D : Ends) : WX := fun cls d σ H =>
  ∃ b, PySem.W.exmAny K cls cs = some b ∧ (b = true → ∀ a, H a = none → ts a cls d { nx := fun σ' H' => D.nx (σ'.set i none) H', rt := D.rt, bk := fun σ' H' => D.bk (σ'.set i none) H', ct := fun σ' H' => D.ct (σ'.set i none) H' } (σ.set i (some (.ref a))) H) ∧
    (b = false → Wout cls d σ H)
theorem flying_push {B h : Heap} {l : List Env} {a : Addr} {Z : Obj → Prop} (f : HandSPX.FlyingZ B l a Z h) (o : Obj) : HandSPX.FlyingZ B l a Z (h.push o) := by
  obtain ⟨k1, k2, k3, oe, vs, T, oT, ts, he, hz, hd, h1, hb, ht, hT, hdT, h3⟩ := f
  exact ⟨fun b o' e => Heap.get?_push_of_some _ (k1 b o' e), k2, k3.of_keeps fun b o' e _ => ⟨o', Heap.get?_push_of_some _ e, rfl⟩, oe, vs, T, oT, ts, Heap.get?_push_of_some _ he, hz, hd, h1, hb, ht, Heap.get?_push_of_some _ hT, hdT, h3⟩
section
variable {X : Cx} {x1 x2 x3 n : Str} {c1 c2 c3 : Value} {i : Nat} {body suite : List Stmt} {b₀ : Stmt} {p1 p2 p3 tpos pos pos' : Pos} {kk : Nat} {tb : WX → TS} {ts : Addr → Value → Option Addr → TS} {Wout : WX}
theorem ps_try_as3 (hs : X.stack = X.env :: X.outer) (hf : X.env.frame = some X.env.locals) (hN : X.N.Nodup) (hi : X.N[i]? = some n) (hln : X.env.kindOf n = some .local) (hc1 : Names X x1 c1) (hc2 : Names X x2 c2) (hc3 : Names X x3 c3) (tk : Takes X Wout)
    (hb : ∀ (W : WX) (pn : List (Addr × Obj)) (xe : Value → Shared → Prop), Takes (X.tr pn xe) W → PassesOwn (model X.prog X.w) X.A X.env xe → PSs (X.tr pn xe) body (tb W))
    (hsu : ∀ (a : Addr) (oe : Obj) (cls : Value) (d : Option Addr) (pn : List (Addr × Obj)), Zc cls d oe → (∃ vs, oe.data = .fields vs) → PSs (X.suite a ((a, oe) :: pn)) (b₀ :: suite) (ts a cls d)) :
    PS X (.Try body [.ExceptHandler (some (.Tuple [.Name x1 p1, .Name x2 p2, .Name x3 p3] kk tpos)) (some n) (b₀ :: suite) pos'] [] [] pos) (fun D σ H => tb (wAs3 X.K [c1, c2, c3] i ts Wout D) D σ H) := by
  refine ⟨fun pins s σ H D I h => ?_⟩
  have ok := I.ok
  have hfr : X.A.frames = some (X.env :: X.outer) := by rw [ok.frames, hs]
  have hloc : Loc X.env.scope n := .inl hln
  refine wpAny_Try_except ?_
  refine wpAny_mono ((hb (wAs3 X.K [c1, c2, c3] i ts Wout D) (X.pn ++ pins) (fun e s₁ => wpAny (model X.prog X.w) X.A (noteFrame e X.env) (fun _ s₂ => wpAny (model X.prog X.w) X.A (setFlight e none) (fun _ s₃ =>
    wpAny (model X.prog X.w) X.A (handleBy e X.env [.ExceptHandler (some (.Tuple [.Name x1 p1, .Name x2 p2, .Name x3 p3] kk tpos)) (some n) (b₀ :: suite) pos']) (SP X pins D) X.xe s₃) X.xe s₂) X.xe s₁) (fun u s' xx => ?_) PassesOwn.looking).run [] s σ H D (I.toTry _) h) (fun f s1 hsp => ?_) (fun e s1 he => he)
  · -- the catch
    obtain ⟨a, B, sI, pins', σ', H', cls, d, rfl, J', nb, up, sky, na, os, ag, b, hb1, hyes, hno⟩ := xx
    have J : Inv X pins σ' H' sI := J'.ofTry ok
    have sky' : Sky B (X.env :: X.outer) a (Zc cls d) X.env.locals s'.heap := by rw [← hs]; exact sky
    show wpAny (model X.prog X.w) X.A (noteFrame (.ref a) X.env) _ _ _
    refine Sky.land Zc.steady hfr hf sky' fun h2 fl2 up2 => ?_
    have J2 : Inv X pins σ' H' { s' with heap := h2 } := J.landed nb fl2.1 (up.trans up2) os ag
    obtain ⟨oe2, vs2, he2, hz2, hd2⟩ := fl2.there
    have notFr : ∀ {h : Heap} {o : Obj} {vs : Array Value}, h.FunFrames B (X.env :: X.outer) → h.get? a = some o → o.data = .fields vs → a ∉ frs (X.env :: X.outer) := fun {h o vs} ff e dd hm => by
      obtain ⟨_, o', e', hnf⟩ := ff.mem hm
      rw [e] at e'; cases e'
      exact hnf _ dd
    have nfr := notFr fl2.2.2.1 he2 hd2
    have nL : a ≠ X.env.locals := fun z => nfr (List.mem_filterMap.mpr ⟨X.env, List.mem_cons_self, by rw [hf, z]⟩)
    have nF : a ∉ X.fs := fun hm => by
      obtain ⟨e, he, q⟩ := List.mem_filterMap.mp hm
      exact nfr (List.mem_filterMap.mpr ⟨e, List.mem_cons_of_mem _ he, q⟩)
    have S2 := J2.suite he2 hd2 na nL nF
    refine wpAny_handleBy_cons (codeAny_handlers_test ?_) (by intro q; cases q)
    have test : ∀ {x : Str} {c : Value} {np : Pos} {Q : Value → Shared → Prop} {E : Value → Shared → Prop}, Names X x c → Q c { s' with heap := h2 } → wpAny (model X.prog X.w) (X.A.mark (some (.ref a))) (eval (.Name x np) X.env) Q E { s' with heap := h2 } := fun {x c np Q E} hc q => by
      obtain ⟨hg, hdbg, hm | ⟨hm, hv, hnn⟩⟩ := hc
      · exact ld_glob (X := X.suite a ((a, oe2) :: (X.pn ++ pins))) S2 hg hm q hdbg
      · exact ld_blt (X := X.suite a ((a, oe2) :: (X.pn ++ pins))) S2 hg hm hv q hnn hdbg
    refine wpAny_Tuple ?_
    refine wpAny_items_cons (test hc1 ?_)
    refine wpAny_items_cons (test hc2 ?_)
    refine wpAny_items_cons (test hc3 ?_)
    refine wpAny_items_nil ⟨by size_fits, ?_⟩
    generalize hh3 : h2.push { cls := .type "tuple", data := .seq [c1, c2, c3].toArray } = h3
    have fl3 : HandSPX.FlyingZ B (X.env :: X.outer) a (Zc cls d) h3 := by rw [← hh3]; exact flying_push fl2 _
    have upp : h2.UpToSlots h3 := by rw [← hh3]; exact Heap.UpToSlots.of_keeps fun _ _ z => Heap.get?_push_of_some _ z
    have up3 : s'.heap.UpToSlots h3 := up2.trans upp
    have J3 : Inv X pins σ' H' { s' with heap := h3 } := J.landed nb fl3.1 (up.trans up3) os ag
    obtain ⟨oe3, vs3, he3, hz3, hd3⟩ := fl3.there
    have LT : PySem.W.Looks (model X.prog X.w) h3 (typeOf (.ref a)) cls := fun A Q E s k q => wpAny_typeOf_ref (k _ _ he3) (by rw [hz3.1]; exact q)
    have hp : h3.get? h2.objs.size = some { cls := .type "tuple", data := .seq [c1, c2, c3].toArray } := by rw [← hh3]; exact Heap.get?_push_size h2 rfl
    have LM := PySem.W.exm_tup3 (M := model X.prog X.w) (J3.kIn) LT hp hb1
    show wpAny (model X.prog X.w) (X.A.mark (some (.ref a))) (excMatches (.ref a) (.ref h2.objs.size)) _ _ { s' with heap := h3 }
    refine LM.here ?_
    cases b with
    | true =>
      refine codeAny_handlers_suite_as ?_
      refine HandSPX.lands_againZ fl3 fun h4 fl4 up4 => ?_
      have J4 : Inv X pins σ' H' { s' with heap := h4 } := J.landed nb fl4.1 ((up.trans up3).trans up4) os ag
      obtain ⟨oe4, vs4, he4, hz4, hd4⟩ := fl4.there
      have S4 := J4.suite he4 hd4 na nL nF
      refine store_ok (X := X.suite a ((a, oe4) :: (X.pn ++ pins))) (v := .ref a) S4 hN hi hloc rfl (fun s5 S5 => ?_) (.inr hln)
      refine wpAny_mono ((hsu a oe4 cls d (X.pn ++ pins) hz4 ⟨_, hd4⟩).run [] s5 _ H' _ S5 (hyes rfl a na)) (fun f s6 hsp => ?_) (fun _ _ z => False.elim z)
      have end_ : ∀ {σ6 : L2.St} {H6 : Hp} {Q : Shared → Prop}, Inv (X.suite a ((a, oe4) :: (X.pn ++ pins))) [] σ6 H6 s6 → (∀ s7, Inv X pins (σ6.set i none) H6 s7 → Q s7) →
          wpAny (model X.prog X.w) X.A (do bindName X.env n .none; unbindBehindTheSuite X.env n pos') (fun _ s7 => Q s7) X.xe s6 := fun {σ6 H6 Q} S6 hq => gone_ok (S6.unsuite ok) hN hi hln hq
      cases f with
      | next =>
        obtain ⟨σ6, H6, S6, q6⟩ := hsp
        exact end_ S6 fun s7 J7 => ⟨_, _, J7, q6⟩
      | brk =>
        obtain ⟨σ6, H6, S6, q6⟩ := hsp
        exact end_ S6 fun s7 J7 => ⟨_, _, J7, q6⟩
      | cont =>
        obtain ⟨σ6, H6, S6, q6⟩ := hsp
        exact end_ S6 fun s7 J7 => ⟨_, _, J7, q6⟩
      | ret u =>
        obtain ⟨v6, σ6, H6, S6, r6, q6⟩ := hsp
        exact end_ S6 fun s7 J7 => ⟨_, _, _, J7, r6, q6⟩
    | false =>
      show wpAny _ X.A (handleBy (.ref a) X.env []) _ _ _
      refine wpAny_handleBy_nil ?_
      obtain ⟨k1, k2, k3, oe, vs, T, oT, ts', he, hz, hd, h1, hr⟩ := id fl3
      unfold PySem.passOn
      refine wpAny_bind (wpAny_field he hd h1 ?_)
      rw [if_neg (show ¬ ((Value.ref T == Value.none) = true) from by simp)]
      have fin : wpAny (model X.prog X.w) X.A (setFlight (.ref a) X.env.frame) (fun _ s4 => wpAny (model X.prog X.w) X.A (throw (.ref a) : Sem Flow) (SP X pins D) X.xe s4) X.xe { s' with heap := h3 } := by
        rw [hf]
        refine HandSPX.setFlight_upZ fl3 fun h4 hh4 up4 => wpAny_throw (tk _ _ ?_)
        exact ⟨a, B, sI, pins, σ', H', cls, d, rfl, J, nb, (up.trans up3).trans up4, .inr (.inr (by rw [hs]; exact hh4)), na, os, ag, hno rfl⟩
      first
        | exact wpAny_bind (wpAny_pure (wpAny_bind fin))
        | exact wpAny_bind fin
  · cases f with
    | next =>
      obtain ⟨σ', H', J', q⟩ := hsp
      exact wpAny_execs_nil ⟨σ', H', J'.ofTry ok, q⟩
    | brk =>
      obtain ⟨σ', H', J', q⟩ := hsp
      exact ⟨σ', H', J'.ofTry ok, q⟩
    | cont =>
      obtain ⟨σ', H', J', q⟩ := hsp
      exact ⟨σ', H', J'.ofTry ok, q⟩
    | ret u =>
      obtain ⟨v, σ', H', J', r, q⟩ := hsp
      exact ⟨v, σ', H', J'.ofTry ok, r, q⟩
end
end ExR
namespace Un
open PySem L2 TL
def top (i : Nat) : Stmt := PySem.Challenge.pw_unopened_k04_series_refused.main.body.getD i (.Pass ⟨0, 0, 0, 0⟩)
abbrev sBag : Stmt := top 36
abbrev sPull : Stmt := top 37
abbrev sAny : Stmt := top 38
/-! the law's drawing: a bag at b, its cells at c -/
structure BagIs (H : Hp) (b c : Addr) (ns : List Int) (p r s k : Int) : Prop where
  lb : H b = some (.lst [.ref c, .int p, .int r, .int s, .int k])
  lc : H c = some (.lst (ns.map V.int))
  nl : ns.length ≤ 63
  p0 : 0 ≤ p
  s0 : 0 ≤ s
  s1 : s < 2147483648
  r0 : 0 ≤ r
def Bag (H : Hp) (b c : Addr) : Prop := ∃ ns p r s k, BagIs H b c ns p r s k
/-- what was tracked is as it was, the bag aside -/
def Kp (b : Addr) (H H' : Hp) : Prop := ∀ a o, H a = some o → a ≠ b → H' a = some o
theorem Kp.refl (b : Addr) (H : Hp) : Kp b H H := fun _ _ h _ => h
theorem Kp.trans {b : Addr} {H H1 H2 : Hp} (x : Kp b H H1) (y : Kp b H1 H2) : Kp b H H2 := fun a o h n => y a o (x a o h n) n
theorem Same.kp {b : Addr} {H H' : Hp} (x : Same H H') : Kp b H H' := fun a o h _ => x a o h
theorem same_upd {H : Hp} {p : Addr} (h : H p = none) (o : HO) : Same H (upd H p o) := fun b u q => by rw [upd_ne (ne_of_none q h)]; exact q
theorem Bag.ne {H : Hp} {b c : Addr} (B : Bag H b c) : b ≠ c := by
  obtain ⟨ns, p, r, s, k, B⟩ := B
  intro e
  have h1 := B.lb
  rw [e, B.lc] at h1
  cases ns with
  | nil => cases h1
  | cons x t => 
    have := Option.some.inj h1
    cases this
theorem Bag.same {H H' : Hp} {b c : Addr} (B : Bag H b c) (x : Same H H') : Bag H' b c := by
  obtain ⟨ns, p, r, s, k, B⟩ := B
  exact ⟨ns, p, r, s, k, x _ _ B.lb, x _ _ B.lc, B.nl, B.p0, B.s0, B.s1, B.r0⟩
theorem Bag.upd_new {H : Hp} {b c q : Addr} (B : Bag H b c) (h : H q = none) (o : HO) : Bag (upd H q o) b c := B.same (same_upd h o)
theorem Bag.there {H : Hp} {b c : Addr} (B : Bag H b c) : ∃ o, H b = some o := by
  obtain ⟨ns, p, r, s, k, B⟩ := B
  exact ⟨_, B.lb⟩
theorem Bag.fresh {H : Hp} {b c q : Addr} (B : Bag H b c) (h : H q = none) : q ≠ b := by
  obtain ⟨o, e⟩ := B.there
  exact (ne_of_none e h).symm
/-- the bag's list is written -/
theorem BagIs.put {H : Hp} {b c : Addr} {ns : List Int} {p r s k p' r' s' k' : Int} (B : BagIs H b c ns p r s k) (h0 : 0 ≤ p') (h1 : 0 ≤ s') (h2 : s' < 2147483648) (h3 : 0 ≤ r') :
    BagIs (upd H b (.lst [.ref c, .int p', .int r', .int s', .int k'])) b c ns p' r' s' k' := by
  have n : b ≠ c := Bag.ne ⟨ns, p, r, s, k, B⟩
  exact ⟨upd_same, by rw [upd_ne n.symm]; exact B.lc, B.nl, h0, h1, h2, h3⟩
def spPull : Sp := fun vs H Q _ => ∃ (b c : Addr) (many : Int), vs = [.ref b, .int many] ∧ Bag H b c ∧ 0 < many ∧ many < 1073741824 ∧
  ∀ (d : Int) (H' : Hp), 0 ≤ d → d < many → Bag H' b c → Kp b H H' → Q (.int d) H'
section
variable {P : Program} {w : World} {K : PySem.W.Frag} {mg : Str → Option Value} {base : Heap}
theorem scPull : FnScope ["_law_bag_here", "_law_many", "_law_cell", "_law_digit", "_law_seed"] ["_law_bag_here", "_law_many"] (defScope sPull) := ⟨rfl, rfl, rfl, by decide +kernel, rfl, by decide +kernel, by decide +kernel⟩
theorem ok_pull {f : Addr} {fd : FuncData} (F : Fun K "_law_pull" "_law_pull" sPull f fd) (mlen : mg "len" = none) (mint : mg "int" = none) : FnOk P w K mg base CX0 1 f fd ["_law_bag_here", "_law_many"] spPull := by
  refine F.ok scPull (fun vs H Q E h => ?_) (fun cdv A outer s H vs Q E hr h => ?_)
  · obtain ⟨b, c, many, rfl, _⟩ := h
    rfl
  obtain ⟨b, c, many, rfl, ⟨ns, p, r, s, k, B⟩, m0, m1, q⟩ := h
  refine ⟨_, C8.pss_cut (ps_if (PW.pt (pw_and (pt_cmpR op_eq (pe_ix ix_list (pv 0) pe_int (fun _ _ => rfl)) pe_int (nomark _)) (pw_and1 (pt_cmpR op_lt (pe_ix ix_list (pv 0) pe_int (fun _ _ => rfl)) (pe_callB call_len_seq (by rfl) mlen PySem.boot_len (pa_cons (pe_ix ix_list (pv 0) pe_int (fun _ _ => rfl)) pa_nil)) (nomark _)))))
      (pss_cons (ps_set (i := 2) scPull.nd rfl (Or.inl rfl) (pe_ix ix_list (pe_ix ix_list (pv 0) pe_int (fun _ _ => rfl)) (pe_ix ix_list (pv 0) pe_int (fun _ _ => rfl)) (fun _ _ => rfl)))
      (pss_cons (ps_asg (pe_op op_add (pe_ix ix_list (pv 0) pe_int (fun _ _ => rfl)) pe_int) (pg_sub (pv 0) pe_int set_list))
      (pss_one (ps_if (pt_cmpR op_ge (pv 2) (pe_op op_pow pe_int pe_int) (nomark _))
        (pss_one (ps_asg (pv 2) (pg_sub (pv 0) pe_int set_list)))
        (pss_one (ps_asg (pe_op op_mod (pe_callTy call_int1 (by rfl) mint (by decide +kernel) (pa_cons (pe_op op_add (pe_op op_add (pe_op op_mul (pe_ix ix_list (pv 0) pe_int (fun _ _ => rfl)) pe_int) (pe_op op_mul (pe_op op_mod (pe_callTy call_int1 (by rfl) mint (by decide +kernel) (pa_cons (pv 2) pa_nil)) pe_int) pe_int)) pe_int) pa_nil)) pe_int) (pg_sub (pv 0) pe_int set_list)))))))
      pss_nil)
    (pss_cons (ps_if (pt_cmpR op_gt (pe_ix ix_list (pv 0) pe_int (fun _ _ => rfl)) pe_int (nomark _))
      (pss_cons (ps_set (i := 3) scPull.nd rfl (Or.inl rfl) (pe_op op_mod (pe_callTy call_int1 (by rfl) mint (by decide +kernel) (pa_cons (pe_ix ix_list (pv 0) pe_int (fun _ _ => rfl)) pa_nil)) (pv 1)))
      (pss_cons (ps_asg (pe_op op_fdiv (pe_ix ix_list (pv 0) pe_int (fun _ _ => rfl)) (pv 1)) (pg_sub (pv 0) pe_int set_list))
      (pss_one (ps_ret (pv 3)))))
      pss_nil)
    (pss_cons (ps_asg (pe_op op_add (pe_ix ix_list (pv 0) pe_int (fun _ _ => rfl)) pe_int) (pg_sub (pv 0) pe_int set_list))
    (pss_cons (ps_set (i := 4) scPull.nd rfl (Or.inl rfl) (pe_ix ix_list (pv 0) pe_int (fun _ _ => rfl)))
    (pss_cons (ps_asg (pe_op op_mod (pe_callTy call_int1 (by rfl) mint (by decide +kernel) (pa_cons (pe_op op_add (pe_op op_add (pe_op op_add (pe_op op_mul (pe_op op_mul (pv 4) (pv 4)) pe_int) (pe_op op_mul (pv 4) pe_int)) (pe_op op_mul (pe_ix ix_list (pv 0) pe_int (fun _ _ => rfl)) pe_int)) pe_int) pa_nil)) pe_int) (pg_sub (pv 0) pe_int set_list))
    (pss_one (ps_ret (pe_op op_mod (pe_callTy call_int1 (by rfl) mint (by decide +kernel) (pa_cons (pe_op op_add (pe_op op_fdiv (pe_ix ix_list (pv 0) pe_int (fun _ _ => rfl)) pe_int) (pe_op op_mul (pe_op op_mod (pe_callTy call_int1 (by rfl) mint (by decide +kernel) (pa_cons (pe_ix ix_list (pv 0) pe_int (fun _ _ => rfl)) pa_nil)) pe_int) pe_int)) pa_nil)) (pv 1)))))))), ?_⟩
  have r0 : SqL K H b [.ref c, .int p, .int r, .int s, .int k] := SqL.of B.lb
  have rc : SqL K H c (ns.map V.int) := SqL.of B.lc
  refine ⟨fun σ' H2 => ∃ p r s k v2, σ' = [some (.ref b), some (.int many), v2, none, none] ∧ BagIs H2 b c ns p r s k ∧ Kp b H H2, ?_, ?_⟩
  · -- if bag[2] == 0 and bag[1] < len(bag[0])
    refine ⟨.ref b, rfl, b, _, 2, .int r, rfl, rfl, r0, rfl, rfl, _, rfl, ?_⟩
    refine ite2 (fun _ => ?_) (fun _ => ?_)
    case refine_2 => exact iteF ⟨p, r, s, k, none, rfl, B, Kp.refl b H⟩
    refine ⟨.ref b, rfl, b, _, 1, .int p, rfl, rfl, r0, rfl, .ref b, rfl, b, _, 0, .ref c, rfl, rfl, r0, rfl, c, _, rfl, .inl rc, p, _, rfl, rfl, _, rfl, ?_⟩
    refine ite2 (fun hp => ?_) (fun _ => ?_)
    case refine_2 => exact ⟨p, r, s, k, none, rfl, B, Kp.refl b H⟩
    have hp' : p < ((ns.map V.int).length : Int) := of_decide_eq_true hp
    rw [List.length_map] at hp'
    have hpn : p.toNat < ns.length := by have := B.p0; omega
    have hcell : atI (ns.map V.int) p = some (.int ns[p.toNat]) := by
      have e : p = ((p.toNat : Nat) : Int) := by have := B.p0; omega
      have q : atI (ns.map V.int) ((p.toNat : Nat) : Int) = some (.int ns[p.toNat]) := atI_nat (by rw [List.getElem?_map, List.getElem?_eq_getElem hpn] <;> rfl)
      rw [← e] at q
      exact q
    -- cell = bag[0][bag[1]]; bag[1] = bag[1] + 1
    refine ⟨.ref b, rfl, b, _, 0, .ref c, rfl, rfl, r0, rfl, .ref b, rfl, b, _, 1, .int p, rfl, rfl, r0, rfl, c, _, p, _, rfl, rfl, rc, hcell, ?_⟩
    refine ⟨.ref b, rfl, b, _, 1, .int p, rfl, rfl, r0, rfl, p, 1, rfl, rfl, .ref b, rfl, b, _, 1, 1, rfl, rfl, B.lb, rfl, ?_⟩
    have B1 : BagIs (upd H b (.lst [.ref c, .int (p + 1), .int r, .int s, .int k])) b c ns (p + 1) r s k := B.put (by have := B.p0; omega) B.s0 B.s1 B.r0
    have k1 : Kp b H (upd H b (.lst [.ref c, .int (p + 1), .int r, .int s, .int k])) := fun a o e n => by rw [upd_ne n]; exact e
    -- if cell >= 10 ** 18
    refine ⟨_, rfl, 10, 18, rfl, rfl, ⟨by decide, by decide, by decide⟩, _, _, rfl, rfl, _, rfl, ?_⟩
    refine ite2 (fun hg => ?_) (fun _ => ?_)
    · have hg' : ns[p.toNat] ≥ (10 : Int) ^ (18 : Int).toNat := of_decide_eq_true hg
      have hg0 : 0 ≤ ns[p.toNat] := Int.le_trans (by decide) hg'
      refine ⟨_, rfl, .ref b, rfl, b, _, 2, 2, rfl, rfl, B1.lb, rfl, ?_⟩
      have e1 : upd (upd H b (.lst [.ref c, .int (p + 1), .int r, .int s, .int k])) b (.lst [.ref c, .int (p + 1), .int ns[p.toNat], .int s, .int k]) = upd H b (.lst [.ref c, .int (p + 1), .int ns[p.toNat], .int s, .int k]) := upd_upd
      refine ⟨p + 1, ns[p.toNat], s, k, _, rfl, ?_, ?_⟩
      · exact B1.put B1.p0 B.s0 B.s1 hg0
      · exact k1.trans fun a o e n => by rw [upd_ne n]; exact e
    · refine ⟨.ref b, rfl, b, _, 3, .int s, rfl, rfl, SqL.of B1.lb, rfl, s, 48623, rfl, rfl, .inr ⟨by decide, by decide⟩, ?_⟩
      refine ⟨_, rfl, .inl ⟨_, rfl, ?_⟩⟩
      refine ⟨_, 2147483399, rfl, rfl, (by show (0 : Int) < 2147483399; decide), ?_⟩
      refine ⟨_, 15017, rfl, rfl, .inr ⟨by decide, by decide⟩, ?_⟩
      refine ⟨_, _, rfl, rfl, _, 31, rfl, rfl, .inl ⟨_, rfl, ?_⟩⟩
      refine ⟨_, 2147483563, rfl, rfl, (by show (0 : Int) < 2147483563; decide), ?_⟩
      refine ⟨.ref b, rfl, b, _, 3, 3, rfl, rfl, B1.lb, rfl, ?_⟩
      refine ⟨p + 1, r, _, k, _, rfl, B1.put B1.p0 ?_ ?_ B.r0, k1.trans fun a o e n => by rw [upd_ne n]; exact e⟩
      · exact Int.emod_nonneg _ (by decide)
      · exact Int.lt_trans (Int.emod_lt_of_pos _ (by decide)) (by decide)
  · rintro σ' H2 ⟨p, r, s, k, v2, rfl, B, kp⟩
    have r0 : SqL K H2 b [.ref c, .int p, .int r, .int s, .int k] := SqL.of B.lb
    -- if bag[2] > 0
    refine ⟨.ref b, rfl, b, _, 2, .int r, rfl, rfl, r0, rfl, _, _, rfl, rfl, _, rfl, ?_⟩
    refine ite2 (fun _ => ?_) (fun _ => ?_)
    · refine ⟨.ref b, rfl, b, _, 2, .int r, rfl, rfl, r0, rfl, .inl ⟨_, rfl, ?_⟩⟩
      refine ⟨_, rfl, _, _, rfl, rfl, m0, ?_⟩
      refine ⟨.ref b, rfl, b, _, 2, .int r, rfl, rfl, r0, rfl, _, rfl, _, _, rfl, rfl, ⟨m0, m1⟩, ?_⟩
      refine ⟨.ref b, rfl, b, _, 2, 2, rfl, rfl, B.lb, rfl, ?_⟩
      refine ⟨_, rfl, ?_⟩
      exact q _ _ (Int.emod_nonneg _ (by omega)) (Int.emod_lt_of_pos _ m0) ⟨ns, p, _, s, k, B.put B.p0 B.s0 B.s1 (Int.ediv_nonneg B.r0 (by omega))⟩ (kp.trans fun a o e n => by rw [upd_ne n]; exact e)
    · -- bag[4] = bag[4] + 1; seed = bag[3]
      refine ⟨.ref b, rfl, b, _, 4, .int k, rfl, rfl, r0, rfl, k, 1, rfl, rfl, .ref b, rfl, b, _, 4, 4, rfl, rfl, B.lb, rfl, ?_⟩
      have B1 : BagIs (upd H2 b (.lst [.ref c, .int p, .int r, .int s, .int (k + 1)])) b c ns p r s (k + 1) := B.put B.p0 B.s0 B.s1 B.r0
      have k1 : Kp b H (upd H2 b (.lst [.ref c, .int p, .int r, .int s, .int (k + 1)])) := kp.trans fun a o e n => by rw [upd_ne n]; exact e
      refine ⟨.ref b, rfl, b, _, 3, .int s, rfl, rfl, SqL.of B1.lb, rfl, ?_⟩
      have hs0 := B.s0
      have hs1 := B.s1
      refine ⟨_, rfl, _, rfl, _, _, rfl, rfl, .inl ⟨by omega, by omega⟩, _, 7, rfl, rfl, .inr ⟨by decide, by decide⟩, ?_⟩
      refine ⟨_, rfl, _, 31159, rfl, rfl, .inr ⟨by decide, by decide⟩, _, _, rfl, rfl, ?_⟩
      refine ⟨.ref b, rfl, b, _, 4, .int (k + 1), rfl, rfl, SqL.of B1.lb, rfl, _, 1299841, rfl, rfl, .inr ⟨by decide, by decide⟩, _, _, rfl, rfl, ?_⟩
      refine ⟨_, 70003, rfl, rfl, .inl ⟨_, rfl, ?_⟩⟩
      refine ⟨_, 2147483543, rfl, rfl, (by show (0 : Int) < 2147483543; decide), ?_⟩
      refine ⟨.ref b, rfl, b, _, 3, 3, rfl, rfl, B1.lb, rfl, ?_⟩
      have B2 := B1.put (p' := p) (r' := r) (k' := k + 1) B.p0 (Int.emod_nonneg (s * s * 7 + s * 31159 + (k + 1) * 1299841 + 70003) (show (2147483543 : Int) ≠ 0 by decide)) (Int.lt_trans (Int.emod_lt_of_pos _ (by decide)) (by decide)) B.r0
      refine ⟨.ref b, rfl, b, _, 3, _, rfl, rfl, SqL.of B2.lb, rfl, _, 73, rfl, rfl, ⟨by decide, by decide⟩, ?_⟩
      refine ⟨.ref b, rfl, b, _, 3, _, rfl, rfl, SqL.of B2.lb, rfl, .inl ⟨_, rfl, ?_⟩⟩
      refine ⟨_, 7919, rfl, rfl, (by show (0 : Int) < 7919; decide), _, 59, rfl, rfl, .inr ⟨by decide, by decide⟩, ?_⟩
      refine ⟨_, _, rfl, rfl, .inl ⟨_, rfl, ?_⟩⟩
      refine ⟨_, rfl, _, _, rfl, rfl, m0, ?_⟩
      exact q _ _ (Int.emod_nonneg _ (by omega)) (Int.emod_lt_of_pos _ m0) ⟨ns, p, _, _, _, B2⟩ (k1.trans fun a o e n => by rw [upd_ne n]; exact e)

/-! the bag is made -/
theorem cut_ints (ns : List Int) (lo hi : Option Int) : ∃ ms : List Int, cutV (ns.map V.int) lo hi = ms.map V.int ∧ ms.length ≤ ns.length := by
  refine ⟨(ns.drop (HT.sIx ns.length 0 lo)).take (HT.sIx ns.length ns.length hi - HT.sIx ns.length 0 lo), ?_, ?_⟩
  · unfold cutV
    rw [List.length_map, List.map_take, List.map_drop]
  · rw [List.length_take, List.length_drop]
    omega
def spBag (K : PySem.W.Frag) : Sp := fun vs H Q _ => ∃ (a : Addr) (ns : List Int), vs = [.ref a] ∧ SqL K H a (ns.map V.int) ∧ ns.length ≤ 63 ∧
  ∀ (b c : Addr) (H' : Hp), Same H H' → H b = none → H c = none → Bag H' b c → Q (.ref b) H'
theorem scBag : FnScope ["_law_script"] ["_law_script"] (defScope sBag) := ⟨rfl, rfl, rfl, by decide +kernel, rfl, by decide +kernel, by decide +kernel⟩
theorem ok_bag {f : Addr} {fd : FuncData} (F : Fun K "_law_bag" "_law_bag" sBag f fd) (mlen : mg "len" = none) (mlist : mg "list" = none) : FnOk P w K mg base CX0 1 f fd ["_law_script"] (spBag K) := by
  refine F.ok scBag (fun vs H Q E h => ?_) (fun cdv A outer s H vs Q E hr h => ?_)
  · obtain ⟨a, ns, rfl, _⟩ := h
    rfl
  obtain ⟨a, ns, rfl, hS, h63, q⟩ := h
  refine ⟨_, pss_one (ps_ret (pe_lst (pa_cons (pe_callTy call_list_of (by rfl) mlist (by decide +kernel) (pa_cons (pe_slice sl_list (pv 0) po_none (po_some pe_int)) pa_nil)) (pa_cons pe_int (pa_cons pe_int (pa_cons (pe_op op_add pe_int (pe_callB call_len_seq (by rfl) mlen PySem.boot_len (pa_cons (pv 0) pa_nil))) (pa_cons pe_int pa_nil))))))), ?_⟩
  obtain ⟨ms, em, hm⟩ := cut_ints ns none (some 63)
  refine ⟨_, rfl, 63, rfl, a, _, rfl, hS, fun x hx => ?_⟩
  rw [em]
  have s1 := same_upd hx (.lst (ms.map V.int))
  refine ⟨x, _, rfl, .inl (SqL.of upd_same), fun y hy => ?_⟩
  have s2 := s1.trans (same_upd hy (.lst (ms.map V.int)))
  refine ⟨_, rfl, a, _, rfl, .inl (s2.seq hS), _, _, rfl, rfl, (by show 5 ≤ sizeLine; decide), fun b hb => ?_⟩
  have hb0 : H b = none := s2.free hb
  have hyb : y ≠ b := fun e => by
    rw [← e, upd_same] at hb
    cases hb
  refine q b y _ (s2.trans (same_upd hb _)) hb0 (s1.free hy) ⟨ms, 0, 0, _, 0, upd_same, ?_, by omega, by decide, ?_, ?_, by decide⟩
  · rw [upd_ne hyb, upd_same]
  · show (0 : Int) ≤ 12002 + ((ns.map V.int).length : Int)
    omega
  · show 12002 + ((ns.map V.int).length : Int) < 2147483648
    rw [List.length_map]
    omega
/-! one of several things -/
theorem Kp.seqL {b : Addr} {H H' : Hp} (x : Kp b H H') {a : Addr} {xs : List V} (n : a ≠ b) (h : SqL K H a xs) : SqL K H' a xs := by
  rcases h with (h | ⟨o, h⟩) | h
  · exact .inl (.inl (x _ _ h n))
  · exact .inl (.inr ⟨o, x _ _ h n⟩)
  · exact .inr h
theorem Kp.seqT {b : Addr} {H H' : Hp} (x : Kp b H H') {a : Addr} {xs : List V} (n : a ≠ b) (h : SqT K H a xs) : SqT K H' a xs := by
  rcases h with (h | ⟨o, h⟩) | h
  · exact .inl (.inl (x _ _ h n))
  · exact .inl (.inr ⟨o, x _ _ h n⟩)
  · exact .inr h
/-- what may be drawn from -/
def Menu (K : PySem.W.Frag) (H : Hp) (b : Addr) (x : V) (its : List V) : Prop :=
  (∃ a, x = .ref a ∧ a ≠ b ∧ SqL K H a its) ∨ (∃ a, x = .ref a ∧ a ≠ b ∧ SqT K H a its) ∨ (∃ z : Str, x = .str z ∧ z.length ≤ sizeLine ∧ its = z.cps.toList.map (fun c => V.str ⟨#[c]⟩))
def spAny (K : PySem.W.Frag) : Sp := fun vs H Q _ => ∃ (b c : Addr) (x : V) (its : List V), vs = [.ref b, x] ∧ Bag H b c ∧ Menu K H b x its ∧ 0 < its.length ∧ its.length < 1073741824 ∧
  ∀ (y : V) (H' : Hp), y ∈ its → Bag H' b c → Kp b H H' → Q y H'
theorem scAny : FnScope ["_law_bag_here", "_law_things"] ["_law_bag_here", "_law_things"] (defScope sAny) := ⟨rfl, rfl, rfl, by decide +kernel, rfl, by decide +kernel, by decide +kernel⟩
theorem str_len (z : Str) : z.length = z.cps.toList.length := by
  show z.cps.size = _
  rw [Array.length_toList]
theorem ok_any {f g : Addr} {fd gd : FuncData} (F : Fun K "_law_any" "_law_any" sAny f fd) (G : FnOk P w K mg base CX0 1 g gd ["_law_bag_here", "_law_many"] spPull) (bG : Binds K gd ["_law_bag_here", "_law_many"] []) (kG : PySem.W.keepIn K (.ref g) = true) (mG : mg "_law_pull" = some (.ref g))
    (mlen : mg "len" = none) : FnOk P w K mg base CX0 2 f fd ["_law_bag_here", "_law_things"] (spAny K) := by
  refine F.ok scAny (fun vs H Q E h => ?_) (fun cdv A outer s H vs Q E hr h => ?_)
  · obtain ⟨b, c, x, its, rfl, _⟩ := h
    rfl
  obtain ⟨b, c, x, its, rfl, B, M, l0, l1, q⟩ := h
  refine ⟨_, pss_one (ps_ret (pe_ix ix_seq (pv 1) (pe_call G hr (by rfl) mG kG bG .nil pass0 (pa_cons (pv 0) (pa_cons (pe_callB call_len (by rfl) mlen PySem.boot_len (pa_cons (pv 1) pa_nil)) pa_nil))) (fun _ _ => rfl))), ?_⟩
  have hlen : LenV K x H its.length := by
    rcases M with ⟨a, rfl, _, h⟩ | ⟨a, rfl, _, h⟩ | ⟨z, rfl, hz, rfl⟩
    · exact .inl ⟨_, h, rfl⟩
    · exact .inr ⟨_, h, rfl⟩
    · exact ⟨hz, by rw [List.length_map, str_len]⟩
  refine ⟨x, rfl, .ref b, rfl, x, rfl, x, its.length, rfl, hlen, b, c, _, rfl, B, by omega, by omega, fun d H' d0 d1 B' kp => ?_⟩
  have hd : d.toNat < its.length := by omega
  have ed : d = ((d.toNat : Nat) : Int) := by omega
  have hat : atI its d = some its[d.toNat] := by
    have e : atI its ((d.toNat : Nat) : Int) = some its[d.toNat] := atI_nat (by rw [List.getElem?_eq_getElem hd])
    rw [← ed] at e
    exact e
  have fin : Q its[d.toNat] H' := q _ _ (List.getElem_mem hd) B' kp
  rcases M with ⟨a, rfl, na, h⟩ | ⟨a, rfl, na, h⟩ | ⟨z, rfl, hz, rfl⟩
  · exact .inl ⟨a, _, d, _, rfl, rfl, kp.seqL na h, hat, fin⟩
  · exact .inr (.inl ⟨a, _, d, _, rfl, rfl, kp.seqT na h, hat, fin⟩)
  · have hc : d.toNat < z.cps.toList.length := by
      rw [List.length_map] at hd
      exact hd
    have e : atI z.cps.toList ((d.toNat : Nat) : Int) = some z.cps.toList[d.toNat] := atI_nat (by rw [List.getElem?_eq_getElem hc])
    rw [← ed] at e
    have e2 : (z.cps.toList.map (fun c => V.str ⟨#[c]⟩))[d.toNat] = V.str ⟨#[z.cps.toList[d.toNat]]⟩ := by rw [List.getElem_map]
    rw [e2] at fin
    exact .inr (.inr ⟨z, d, _, rfl, rfl, hz, e, fin⟩)
/-! two values that are equal and of the same kinds -/
abbrev sSame : Stmt := top 39
def Leaf : V → Prop
  | .non => True | .bl _ => True | .int _ => True | .str _ => True | _ => False
def Eqv (H : Hp) : Nat → V → V → Prop
  | 0, x, y => Leaf x ∧ x = y
  | n + 1, x, y => (Leaf x ∧ x = y) ∨ ∃ (a b : Addr) (xs ys : List V), x = .ref a ∧ y = .ref b ∧ xs.length = ys.length ∧ xs.length ≤ 100000 ∧ ((H a = some (.lst xs) ∧ H b = some (.lst ys)) ∨ (H a = some (.tup xs) ∧ H b = some (.tup ys))) ∧
      ∀ (i : Nat) (u v : V), xs[i]? = some u → ys[i]? = some v → Eqv H n u v
theorem Eqv.same {H H' : Hp} (s : Same H H') : ∀ {n : Nat} {x y : V}, Eqv H n x y → Eqv H' n x y
  | 0, _, _, h => h
  | n + 1, _, _, h => by
    rcases h with h | ⟨a, b, xs, ys, e1, e2, l, z, h, k⟩
    · exact .inl h
    · refine .inr ⟨a, b, xs, ys, e1, e2, l, z, ?_, fun i u v hu hv => Eqv.same s (k i u v hu hv)⟩
      rcases h with ⟨h1, h2⟩ | ⟨h1, h2⟩
      · exact .inl ⟨s _ _ h1, s _ _ h2⟩
      · exact .inr ⟨s _ _ h1, s _ _ h2⟩
theorem Eqv.leaf {H : Hp} {x : V} (h : Leaf x) : ∀ n, Eqv H n x x
  | 0 => ⟨h, rfl⟩
  | _ + 1 => .inl ⟨h, rfl⟩
def spSame : Nat → Sp
  | 0 => fun _ _ _ _ => False
  | n + 1 => fun vs H Q _ => ∃ (x y : V), vs = [x, y] ∧ Eqv H n x y ∧ ∀ H', Same H H' → Q (.bl true) H'
theorem kitLT {K : PySem.W.Frag} {a : String} {r1 r2 : Bool} (h1 : kitB a "list" = some r1) (h2 : kitB a "tuple" = some r2) : PySem.W.kitAny K (.type a) [.type "list", .type "tuple"] = some (r1 || r2) := by
  cases r1 with
  | true => exact kitAny_cons (kit_ty h1) (fun z => nomatch z) (fun _ => rfl)
  | false =>
    refine kitAny_cons (kit_ty h1) (fun _ => ?_) (fun z => nomatch z)
    cases r2 with
    | true => exact kitAny_cons (kit_ty h2) (fun z => nomatch z) (fun _ => rfl)
    | false => exact kitAny_cons (kit_ty h2) (fun _ => kitAny_nil) (fun z => nomatch z)
/-- a comprehension over zip, turn by turn -/
theorem lc_zipL {K : PySem.W.Frag} {a b : Addr} {xs ys : List V} {g : TG} {te : TE} {vs : List Nat} {σ : L2.St} {H1 : Hp} {D : Addr} {Qd : Hp → Prop} (hl : xs.length = ys.length) (Pv : Nat → Hp → Prop) (h0 : Pv 0 (upd H1 D (.lst []))) (hq : ∀ i H, Pv i H → SqL K H a xs ∧ SqL K H b ys)
    (hs : ∀ (i : Nat) (x y : V) (T : Addr) (H : Hp), xs[i]? = some x → ys[i]? = some y → Pv i H → H T = none → g (.ref T) (wipe σ vs) (upd H T (.tup [x, y])) fun σ2 H2 => wipe σ2 vs = wipe σ vs ∧ te σ2 H2 fun y H4 => ∃ acc, H4 D = some (.lst acc) ∧ acc.length < sizeLine ∧ Pv (i + 1) (upd H4 D (.lst (acc ++ [y])))) (hd : ∀ H, Pv xs.length H → Qd H) :
    ∃ W : Nat → Nat → Hp → Prop, (∃ m, W 0 m (upd H1 D (.lst []))) ∧ ∀ i m H, W i m H →
      ((Itz K a b).stop i H ∧ Qd H) ∨ ((Itz K a b).go i H ∧ ∃ Nx : Hp → Prop, (∀ H', Nx H' → ∃ m', m' < m ∧ W (i + 1) m' H') ∧ ∀ x H', (Itz K a b).yld i H x H' → g x (wipe σ vs) H' fun σ2 H2 => wipe σ2 vs = wipe σ vs ∧ tYes σ2 H2 fun b H3 =>
        if b = true then te σ2 H3 fun y H4 => ∃ acc, H4 D = some (.lst acc) ∧ acc.length < sizeLine ∧ Nx (upd H4 D (.lst (acc ++ [y]))) else Nx H3) := by
  refine ⟨fun i m H => m = xs.length - i ∧ i ≤ xs.length ∧ Pv i H, ⟨xs.length, rfl, Nat.zero_le _, h0⟩, ?_⟩
  rintro i m H ⟨rfl, hi, p⟩
  obtain ⟨qx, qy⟩ := hq i H p
  by_cases hlt : i < xs.length
  · have hx : xs[i]? = some xs[i] := List.getElem?_eq_getElem hlt
    have hlt2 : i < ys.length := by omega
    have hy : ys[i]? = some ys[i] := List.getElem?_eq_getElem hlt2
    refine .inr ⟨⟨xs, ys, _, _, qx, qy, hx, hy⟩, Pv (i + 1), fun H' p' => ⟨xs.length - (i + 1), by omega, rfl, hlt, p'⟩, fun v H' y => ?_⟩
    obtain ⟨T, x', y', rfl, hT, rfl, f1, f2⟩ := y
    exact hs i x' y' T H (f1 xs qx) (f2 ys qy) p hT
  · have e : i = xs.length := by omega
    subst e
    exact .inl ⟨⟨xs, ys, qx, qy, Or.inl (Nat.le_refl _)⟩, hd H p⟩
theorem lc_zipT {K : PySem.W.Frag} {a b : Addr} {xs ys : List V} {g : TG} {te : TE} {vs : List Nat} {σ : L2.St} {H1 : Hp} {D : Addr} {Qd : Hp → Prop} (hl : xs.length = ys.length) (Pv : Nat → Hp → Prop) (h0 : Pv 0 (upd H1 D (.lst []))) (hq : ∀ i H, Pv i H → SqT K H a xs ∧ SqT K H b ys)
    (hs : ∀ (i : Nat) (x y : V) (T : Addr) (H : Hp), xs[i]? = some x → ys[i]? = some y → Pv i H → H T = none → g (.ref T) (wipe σ vs) (upd H T (.tup [x, y])) fun σ2 H2 => wipe σ2 vs = wipe σ vs ∧ te σ2 H2 fun y H4 => ∃ acc, H4 D = some (.lst acc) ∧ acc.length < sizeLine ∧ Pv (i + 1) (upd H4 D (.lst (acc ++ [y])))) (hd : ∀ H, Pv xs.length H → Qd H) :
    ∃ W : Nat → Nat → Hp → Prop, (∃ m, W 0 m (upd H1 D (.lst []))) ∧ ∀ i m H, W i m H →
      ((RZ.ItzT K a b).stop i H ∧ Qd H) ∨ ((RZ.ItzT K a b).go i H ∧ ∃ Nx : Hp → Prop, (∀ H', Nx H' → ∃ m', m' < m ∧ W (i + 1) m' H') ∧ ∀ x H', (RZ.ItzT K a b).yld i H x H' → g x (wipe σ vs) H' fun σ2 H2 => wipe σ2 vs = wipe σ vs ∧ tYes σ2 H2 fun b H3 =>
        if b = true then te σ2 H3 fun y H4 => ∃ acc, H4 D = some (.lst acc) ∧ acc.length < sizeLine ∧ Nx (upd H4 D (.lst (acc ++ [y]))) else Nx H3) := by
  refine ⟨fun i m H => m = xs.length - i ∧ i ≤ xs.length ∧ Pv i H, ⟨xs.length, rfl, Nat.zero_le _, h0⟩, ?_⟩
  rintro i m H ⟨rfl, hi, p⟩
  obtain ⟨qx, qy⟩ := hq i H p
  by_cases hlt : i < xs.length
  · have hx : xs[i]? = some xs[i] := List.getElem?_eq_getElem hlt
    have hlt2 : i < ys.length := by omega
    have hy : ys[i]? = some ys[i] := List.getElem?_eq_getElem hlt2
    refine .inr ⟨⟨xs, ys, _, _, qx, qy, hx, hy⟩, Pv (i + 1), fun H' p' => ⟨xs.length - (i + 1), by omega, rfl, hlt, p'⟩, fun v H' y => ?_⟩
    obtain ⟨T, x', y', rfl, hT, rfl, f1, f2⟩ := y
    exact hs i x' y' T H (f1 xs qx) (f2 ys qy) p hT
  · have e : i = xs.length := by omega
    subst e
    exact .inl ⟨⟨xs, ys, qx, qy, Or.inl (Nat.le_refl _)⟩, hd H p⟩
/-- the built-in names that _law_same reads -/
structure SameTxt (mg : Str → Option Value) : Prop where
  isi : mg "isinstance" = none
  list : mg "list" = none
  tuple : mg "tuple" = none
  len : mg "len" = none
  all : mg "all" = none
  zip : mg "zip" = none
  bool : mg "bool" = none
  int : mg "int" = none
  str : mg "str" = none
theorem scSame : FnScope ["_law_found", "_law_due", "_law_one", "_law_two"] ["_law_found", "_law_due"] (defScope sSame) := ⟨rfl, rfl, rfl, by decide +kernel, rfl, by decide +kernel, by decide +kernel⟩
theorem all_true (n : Nat) : (List.replicate n true).all id = true := by
  induction n with
  | zero => rfl
  | succ n ih => rw [List.replicate_succ, List.all_cons, ih]; rfl
theorem ok_same {f : Addr} {fd : FuncData} {n : Nat} (F : Fun K "_law_same" "_law_same" sSame f fd) (T : SameTxt mg) (G : FnOk P w K mg base CX0 n f fd ["_law_found", "_law_due"] (spSame n)) (bG : Binds K fd ["_law_found", "_law_due"] []) (kG : PySem.W.keepIn K (.ref f) = true) (mG : mg "_law_same" = some (.ref f)) :
    FnOk P w K mg base CX0 (n + 1) f fd ["_law_found", "_law_due"] (spSame (n + 1)) := by
  refine F.ok scSame (fun vs H Q E h => ?_) (fun cdv A outer s H vs Q E hr h => ?_)
  · obtain ⟨x, y, rfl, _⟩ := h
    rfl
  obtain ⟨x, y, rfl, e, q⟩ := h
  refine ⟨_, pss_cons (ps_if (pt_val (pe_callB call_isiT (by rfl) T.isi (by decide +kernel) (pa_cons (pv 1) (pa_cons (pe_tup (pa_cons (pe_bltn (v := .ty "list") (by rfl) T.list (by decide +kernel) rfl) (pa_cons (pe_bltn (v := .ty "tuple") (by rfl) T.tuple (by decide +kernel) rfl) pa_nil))) pa_nil))))
      (pss_cons (ps_if (PW.pt (pw_or (pt_cmpR op_ne (pe_callB call_isi (by rfl) T.isi (by decide +kernel) (pa_cons (pv 0) (pa_cons (pe_bltn (v := .ty "list") (by rfl) T.list (by decide +kernel) rfl) pa_nil))) (pe_callB call_isi (by rfl) T.isi (by decide +kernel) (pa_cons (pv 1) (pa_cons (pe_bltn (v := .ty "list") (by rfl) T.list (by decide +kernel) rfl) pa_nil))) (nomark _))
          (pw_or1 (pt_cmpR op_ne (pe_callB call_isi (by rfl) T.isi (by decide +kernel) (pa_cons (pv 0) (pa_cons (pe_bltn (v := .ty "tuple") (by rfl) T.tuple (by decide +kernel) rfl) pa_nil))) (pe_callB call_isi (by rfl) T.isi (by decide +kernel) (pa_cons (pv 1) (pa_cons (pe_bltn (v := .ty "tuple") (by rfl) T.tuple (by decide +kernel) rfl) pa_nil))) (nomark _)))))
          (pss_one (ps_ret pe_bl)) pss_nil)
      (pss_one (ps_ret (pe_and (pe_cmpR op_eq (pe_callB call_len_seq (by rfl) T.len PySem.boot_len (pa_cons (pv 0) pa_nil)) (pe_callB call_len_seq (by rfl) T.len PySem.boot_len (pa_cons (pv 1) pa_nil)) (nomark _)) (pe_one (pe_callB (cr_all rfl) (by rfl) T.all (by decide +kernel) (pa_cons
          (pe_lc (own := [("_law_one", 2), ("_law_two", 3)]) (g := gTup K 2 (gCons (gName 2) (gCons (gName 3) gNil))) rfl scSame.nd (RZ.pi_zipA (by rfl) T.zip (pa_cons (pv 0) (pa_cons (pv 1) pa_nil))) (blkOk_by (own := [("_law_one", 2), ("_law_two", 3)]) (N := ["_law_found", "_law_due", "_law_one", "_law_two"]) (sc := defScope sSame) (by decide +kernel))
            (fun _ _ _ _ _ => pg_tup (n := 2) rfl (pgs_cons (pg_name (i := 2) scSame.nd rfl (Or.inl rfl) (Or.inr rfl)) (pgs_cons (pg_name (i := 3) scSame.nd rfl (Or.inl rfl) (Or.inr rfl)) pgs_nil))) (fun _ _ _ _ _ => pts_nil)
            (fun _ _ _ _ _ => pe_call G hr (by rfl) mG kG bG .nil pass0 (pa_cons (pv 2) (pa_cons (pv 3) pa_nil)))) pa_nil)))))))
      pss_nil)
    (pss_cons (ps_if (PW.pt (pw_or (pt_cmpR op_isN (pv 1) pe_non (nomark _)) (pw_or1 (pt_cmpR op_isN (pv 0) pe_non (nomark _))))) (pss_one (ps_ret (pe_and (pe_cmpR op_isN (pv 1) pe_non (nomark _)) (pe_one (pe_cmpR op_isN (pv 0) pe_non (nomark _)))))) pss_nil)
    (pss_cons (ps_if (PW.pt (pw_or (pt_cmpR op_ne (pe_callB call_isi (by rfl) T.isi (by decide +kernel) (pa_cons (pv 0) (pa_cons (pe_bltn (v := .ty "bool") (by rfl) T.bool (by decide +kernel) rfl) pa_nil))) (pe_callB call_isi (by rfl) T.isi (by decide +kernel) (pa_cons (pv 1) (pa_cons (pe_bltn (v := .ty "bool") (by rfl) T.bool (by decide +kernel) rfl) pa_nil))) (nomark _))
          (pw_or1 (pt_cmpR op_ne (pe_callB call_isi (by rfl) T.isi (by decide +kernel) (pa_cons (pv 0) (pa_cons (pe_bltn (v := .ty "int") (by rfl) T.int (by decide +kernel) rfl) pa_nil))) (pe_callB call_isi (by rfl) T.isi (by decide +kernel) (pa_cons (pv 1) (pa_cons (pe_bltn (v := .ty "int") (by rfl) T.int (by decide +kernel) rfl) pa_nil))) (nomark _)))))
          (pss_one (ps_ret pe_bl)) pss_nil)
    (pss_one (ps_ret (pe_and (pe_cmpR op_eq (pe_callB call_isi (by rfl) T.isi (by decide +kernel) (pa_cons (pv 0) (pa_cons (pe_bltn (v := .ty "str") (by rfl) T.str (by decide +kernel) rfl) pa_nil))) (pe_callB call_isi (by rfl) T.isi (by decide +kernel) (pa_cons (pv 1) (pa_cons (pe_bltn (v := .ty "str") (by rfl) T.str (by decide +kernel) rfl) pa_nil))) (nomark _)) (pe_one (pe_cmpR op_eq (pv 0) (pv 1) (nomark _)))))))), ?_⟩
  have ht : ∀ t, H t = none → Same H (upd H t (.tup [.ty "list", .ty "tuple"])) := fun t h => same_upd h _
  have hz : ([V.ty "list", V.ty "tuple"] : List V).length ≤ sizeLine := by show 2 ≤ sizeLine; decide
  have kinds : (Leaf x ∧ x = y) ∨ ∃ (m : Nat) (a b : Addr) (xs ys : List V), n = m + 1 ∧ x = .ref a ∧ y = .ref b ∧ xs.length = ys.length ∧ xs.length ≤ 100000 ∧ ((H a = some (.lst xs) ∧ H b = some (.lst ys)) ∨ (H a = some (.tup xs) ∧ H b = some (.tup ys))) ∧
      ∀ (i : Nat) (u v : V), xs[i]? = some u → ys[i]? = some v → Eqv H m u v := by
    cases n with
    | zero => exact .inl e
    | succ m =>
      rcases e with e | ⟨a, b, xs, ys, e⟩
      · exact .inl e
      · exact .inr ⟨m, a, b, xs, ys, rfl, e⟩
  rcases kinds with ⟨lx, exy⟩ | ⟨m, a, b, xs, ys, rfl, rfl, rfl, hl, h100, hk, el⟩
  · subst exy
    cases x with
    | non =>
      refine ⟨_, rfl, hz, fun t h => ?_⟩
      refine ⟨_, t, _, _, [.type "list", .type "tuple"], _, rfl, upd_same, .cons (.ty _) (.cons (.ty _) .nil), (.base .non), kitLT (r1 := false) (r2 := false) (by decide +kernel) (by decide +kernel), ?_⟩
      refine ⟨_, rfl, iteF ?_⟩
      refine ⟨_, rfl, rfl, _, rfl, iteT ?_⟩
      refine ⟨_, rfl, rfl, _, rfl, iteT ?_⟩
      refine ⟨_, rfl, rfl, ?_⟩
      exact q _ (ht t h)
    | bl z =>
      refine ⟨_, rfl, hz, fun t h => ?_⟩
      refine ⟨_, t, _, _, [.type "list", .type "tuple"], _, rfl, upd_same, .cons (.ty _) (.cons (.ty _) .nil), (.base (.bl z)), kitLT (r1 := false) (r2 := false) (by decide +kernel) (by decide +kernel), ?_⟩
      refine ⟨_, rfl, iteF ?_⟩
      refine ⟨_, rfl, rfl, _, rfl, iteF ?_⟩
      refine ⟨_, rfl, rfl, _, rfl, iteF ?_⟩
      refine ⟨_, rfl, _, _, _, _, true, rfl, .ty _, (.base (.bl z)), kit_ty (by decide +kernel), _, rfl, _, _, _, _, true, rfl, .ty _, (.base (.bl z)), kit_ty (by decide +kernel), rfl, _, rfl, iteF ?_⟩
      refine ⟨_, rfl, _, _, _, _, true, rfl, .ty _, (.base (.bl z)), kit_ty (by decide +kernel), _, rfl, _, _, _, _, true, rfl, .ty _, (.base (.bl z)), kit_ty (by decide +kernel), rfl, _, rfl, iteF ?_⟩
      refine ⟨_, rfl, _, _, _, _, false, rfl, .ty _, (.base (.bl z)), kit_ty (by decide +kernel), _, rfl, _, _, _, _, false, rfl, .ty _, (.base (.bl z)), kit_ty (by decide +kernel), rfl, _, rfl, iteT ?_⟩
      refine ⟨_, rfl, _, rfl, rfl, ?_⟩
      rw [decide_eq_true rfl]
      exact q _ (ht t h)
    | int z =>
      refine ⟨_, rfl, hz, fun t h => ?_⟩
      refine ⟨_, t, _, _, [.type "list", .type "tuple"], _, rfl, upd_same, .cons (.ty _) (.cons (.ty _) .nil), (.base (.int z)), kitLT (r1 := false) (r2 := false) (by decide +kernel) (by decide +kernel), ?_⟩
      refine ⟨_, rfl, iteF ?_⟩
      refine ⟨_, rfl, rfl, _, rfl, iteF ?_⟩
      refine ⟨_, rfl, rfl, _, rfl, iteF ?_⟩
      refine ⟨_, rfl, _, _, _, _, false, rfl, .ty _, (.base (.int z)), kit_ty (by decide +kernel), _, rfl, _, _, _, _, false, rfl, .ty _, (.base (.int z)), kit_ty (by decide +kernel), rfl, _, rfl, iteF ?_⟩
      refine ⟨_, rfl, _, _, _, _, true, rfl, .ty _, (.base (.int z)), kit_ty (by decide +kernel), _, rfl, _, _, _, _, true, rfl, .ty _, (.base (.int z)), kit_ty (by decide +kernel), rfl, _, rfl, iteF ?_⟩
      refine ⟨_, rfl, _, _, _, _, false, rfl, .ty _, (.base (.int z)), kit_ty (by decide +kernel), _, rfl, _, _, _, _, false, rfl, .ty _, (.base (.int z)), kit_ty (by decide +kernel), rfl, _, rfl, iteT ?_⟩
      refine ⟨_, rfl, _, rfl, rfl, ?_⟩
      rw [decide_eq_true rfl]
      exact q _ (ht t h)
    | str z =>
      refine ⟨_, rfl, hz, fun t h => ?_⟩
      refine ⟨_, t, _, _, [.type "list", .type "tuple"], _, rfl, upd_same, .cons (.ty _) (.cons (.ty _) .nil), (.base (.str z)), kitLT (r1 := false) (r2 := false) (by decide +kernel) (by decide +kernel), ?_⟩
      refine ⟨_, rfl, iteF ?_⟩
      refine ⟨_, rfl, rfl, _, rfl, iteF ?_⟩
      refine ⟨_, rfl, rfl, _, rfl, iteF ?_⟩
      refine ⟨_, rfl, _, _, _, _, false, rfl, .ty _, (.base (.str z)), kit_ty (by decide +kernel), _, rfl, _, _, _, _, false, rfl, .ty _, (.base (.str z)), kit_ty (by decide +kernel), rfl, _, rfl, iteF ?_⟩
      refine ⟨_, rfl, _, _, _, _, false, rfl, .ty _, (.base (.str z)), kit_ty (by decide +kernel), _, rfl, _, _, _, _, false, rfl, .ty _, (.base (.str z)), kit_ty (by decide +kernel), rfl, _, rfl, iteF ?_⟩
      refine ⟨_, rfl, _, _, _, _, true, rfl, .ty _, (.base (.str z)), kit_ty (by decide +kernel), _, rfl, _, _, _, _, true, rfl, .ty _, (.base (.str z)), kit_ty (by decide +kernel), rfl, _, rfl, iteT ?_⟩
      refine ⟨_, rfl, _, rfl, rfl, ?_⟩
      rw [decide_eq_true rfl]
      exact q _ (ht t h)
    | _ => exact lx.elim
  · -- what a turn brings: the item's answer True is appended
    have turn : ∀ (D : Addr), H D = none → ∀ (i : Nat) (u v : V) (T : Addr) (H2 : Hp), xs[i]? = some u → ys[i]? = some v → (Same H H2 ∧ H2 D = some (.lst (List.replicate i (.bl true)))) → H2 T = none → True := fun _ _ _ _ _ _ _ _ _ _ _ => trivial
    rcases hk with ⟨ha, hb⟩ | ⟨ha, hb⟩
    · refine ⟨_, rfl, hz, fun t h => ?_⟩
      have s1 := ht t h
      refine ⟨_, t, _, _, [.type "list", .type "tuple"], _, rfl, upd_same, .cons (.ty _) (.cons (.ty _) .nil), (.base (.lst (s1 _ _ hb))), kitLT (r1 := true) (r2 := false) (by decide +kernel) (by decide +kernel), ?_⟩
      refine ⟨_, rfl, iteT ?_⟩
      refine ⟨_, rfl, _, _, _, _, true, rfl, .ty _, (.base (.lst (s1 _ _ ha))), kit_ty (by decide +kernel), _, rfl, _, _, _, _, true, rfl, .ty _, (.base (.lst (s1 _ _ hb))), kit_ty (by decide +kernel), rfl, _, rfl, iteF ?_⟩
      refine ⟨_, rfl, _, _, _, _, false, rfl, .ty _, (.base (.lst (s1 _ _ ha))), kit_ty (by decide +kernel), _, rfl, _, _, _, _, false, rfl, .ty _, (.base (.lst (s1 _ _ hb))), kit_ty (by decide +kernel), rfl, _, rfl, iteF ?_⟩
      refine ⟨_, rfl, a, _, rfl, .inl (SqL.of (s1 _ _ ha)), _, rfl, b, _, rfl, .inl (SqL.of (s1 _ _ hb)), rfl, _, rfl, ?_⟩
      rw [show decide (V.int ((xs.length : Nat) : Int) = V.int ((ys.length : Nat) : Int)) = true from decide_eq_true (by rw [hl])]
      refine iteT ?_
      refine ⟨_, rfl, _, rfl, a, b, xs, ys, rfl, .inl ⟨SqL.of (s1 _ _ ha), SqL.of (s1 _ _ hb), fun D hD => ?_⟩⟩
      have s2 := s1.trans (same_upd hD (.lst []))
      refine lc_zipL hl (fun i H2 => Same H H2 ∧ H2 D = some (.lst (List.replicate i (.bl true)))) ⟨s2, upd_same⟩ (fun i H2 ⟨s3, _⟩ => ⟨SqL.of (s3 _ _ ha), SqL.of (s3 _ _ hb)⟩) (fun i u v T H2 hu hv ⟨s3, hD2⟩ hT => ?_) (fun H2 ⟨s3, hD2⟩ => ?_)
      · refine ⟨T, [u, v], rfl, SqT.of upd_same, rfl, u, [v], rfl, v, [], rfl, rfl, rfl, ?_⟩
        have s4 := s3.trans (same_upd hT (.tup [u, v]))
        refine ⟨_, rfl, _, rfl, u, v, rfl, (el i u v hu hv).same s4, fun H3 s5 => ?_⟩
        have hDT : D ≠ T := ne_of_none hD2 hT
        refine ⟨_, s5 _ _ (by rw [upd_ne hDT]; exact hD2), ?_, fun c o e => ?_, ?_⟩
        · rw [List.length_replicate]
          have : i < xs.length := (List.getElem?_eq_some_iff.mp hu).1
          exact Nat.lt_of_lt_of_le (show i < 100000 by omega) (by decide)
        · have nc : c ≠ D := ne_of_none e (s1.free hD)
          rw [upd_ne nc]
          exact s5 _ _ (s4 _ _ e)
        · rw [upd_same, ← List.replicate_succ']
      · refine ⟨D, List.replicate xs.length true, rfl, SqL.of (by rw [hD2, List.map_replicate]), ?_⟩
        rw [all_true]
        exact q _ s3
    · refine ⟨_, rfl, hz, fun t h => ?_⟩
      have s1 := ht t h
      refine ⟨_, t, _, _, [.type "list", .type "tuple"], _, rfl, upd_same, .cons (.ty _) (.cons (.ty _) .nil), (.base (.tup (s1 _ _ hb))), kitLT (r1 := false) (r2 := true) (by decide +kernel) (by decide +kernel), ?_⟩
      refine ⟨_, rfl, iteT ?_⟩
      refine ⟨_, rfl, _, _, _, _, false, rfl, .ty _, (.base (.tup (s1 _ _ ha))), kit_ty (by decide +kernel), _, rfl, _, _, _, _, false, rfl, .ty _, (.base (.tup (s1 _ _ hb))), kit_ty (by decide +kernel), rfl, _, rfl, iteF ?_⟩
      refine ⟨_, rfl, _, _, _, _, true, rfl, .ty _, (.base (.tup (s1 _ _ ha))), kit_ty (by decide +kernel), _, rfl, _, _, _, _, true, rfl, .ty _, (.base (.tup (s1 _ _ hb))), kit_ty (by decide +kernel), rfl, _, rfl, iteF ?_⟩
      refine ⟨_, rfl, a, _, rfl, .inr (SqT.of (s1 _ _ ha)), _, rfl, b, _, rfl, .inr (SqT.of (s1 _ _ hb)), rfl, _, rfl, ?_⟩
      rw [show decide (V.int ((xs.length : Nat) : Int) = V.int ((ys.length : Nat) : Int)) = true from decide_eq_true (by rw [hl])]
      refine iteT ?_
      refine ⟨_, rfl, _, rfl, a, b, xs, ys, rfl, .inr ⟨SqT.of (s1 _ _ ha), SqT.of (s1 _ _ hb), fun D hD => ?_⟩⟩
      have s2 := s1.trans (same_upd hD (.lst []))
      refine lc_zipT hl (fun i H2 => Same H H2 ∧ H2 D = some (.lst (List.replicate i (.bl true)))) ⟨s2, upd_same⟩ (fun i H2 ⟨s3, _⟩ => ⟨SqT.of (s3 _ _ ha), SqT.of (s3 _ _ hb)⟩) (fun i u v T H2 hu hv ⟨s3, hD2⟩ hT => ?_) (fun H2 ⟨s3, hD2⟩ => ?_)
      · refine ⟨T, [u, v], rfl, SqT.of upd_same, rfl, u, [v], rfl, v, [], rfl, rfl, rfl, ?_⟩
        have s4 := s3.trans (same_upd hT (.tup [u, v]))
        refine ⟨_, rfl, _, rfl, u, v, rfl, (el i u v hu hv).same s4, fun H3 s5 => ?_⟩
        have hDT : D ≠ T := ne_of_none hD2 hT
        refine ⟨_, s5 _ _ (by rw [upd_ne hDT]; exact hD2), ?_, fun c o e => ?_, ?_⟩
        · rw [List.length_replicate]
          have : i < xs.length := (List.getElem?_eq_some_iff.mp hu).1
          exact Nat.lt_of_lt_of_le (show i < 100000 by omega) (by decide)
        · have nc : c ≠ D := ne_of_none e (s1.free hD)
          rw [upd_ne nc]
          exact s5 _ _ (s4 _ _ e)
        · rw [upd_same, ← List.replicate_succ']
      · refine ⟨D, List.replicate xs.length true, rfl, SqL.of (by rw [hD2, List.map_replicate]), ?_⟩
        rw [all_true]
        exact q _ s3
theorem no_same {f : Addr} {fd : FuncData} : FnOk P w K mg base CX0 0 f fd ["_law_found", "_law_due"] (spSame 0) :=
  ⟨fun vs H Q E h => False.elim h, fun A outer s H args us vs Q E _ _ _ _ h => False.elim h⟩
theorem all_same {f : Addr} {fd : FuncData} (F : Fun K "_law_same" "_law_same" sSame f fd) (T : SameTxt mg) (bG : Binds K fd ["_law_found", "_law_due"] []) (mG : mg "_law_same" = some (.ref f)) :
    ∀ n, FnOk P w K mg base CX0 n f fd ["_law_found", "_law_due"] (spSame n)
  | 0 => no_same
  | n + 1 => ok_same F T (all_same F T bG mG n) bG F.kp mG
/-! ### a call by keywords alone -/
open PySem.Spec PyProof.Rows in
theorem pe_callN0 {X : Cx} {CX : CXT} {k : Nat} {f : Addr} {fd : FuncData} {ps ks : List Str} {sp : Sp} {E : XK} {x : Str} {p pos : Pos} {kws : List Keyword} {tk : TA} {g : List Value → List Value → List Value} {gV : List V → List V → List V}
    (F : FnOk X.prog X.w X.K X.mg X.base CX k f fd ps sp) (hr : Room k X.A) (hg : Gl X x) (hm : X.mg x = some (.ref f)) (hk : PySem.W.keepIn X.K (.ref f) = true) (hb : KBn X.K fd ps 0 ks g gV) (hx : Passes CX X E)
    (hkw : PK X kws tk) (hall : (backToKw pos (keywordEach kws X.env)).all (·.1.isSome) = true := by rfl) (hks : (backToKw pos (keywordEach kws X.env)).filterMap (·.1) = ks := by rfl)
    (hdb : (x == ("__debug__" : Str)) = false := by decide) (hpl : ((backTo pos (starEach [] X.env)).any (·.1) || (backToKw pos (keywordEach kws X.env)).any (·.1.isNone)) = false := by rfl) :
    PE X (.Call (.Name x p) [] kws pos) (tCallN 0 ks.length sp gV E tNil tk) := by
  refine ⟨fun pins s σ H Q I h => ?_⟩
  refine wpAny_Call_Name_kw (ld_glob I hg hm ?_ hdb)
  refine PySem.W.callWith_KW0 (h₀ := X.base) I.ok.mod.kin hk hall ?_ hpl
  refine thn (hkw.run pos pins s σ H _ I h) fun ws s2 ⟨zs, H2, I2, rz, l1, l2, q2⟩ => ⟨I2.kIn, ?_⟩
  rw [hks]
  exact run_fnN (us := []) (vs := []) F hr hb hx I2 .nil rz rfl l2 q2
theorem Fun.kbn {x qual : Str} {st : Stmt} {f : Addr} {fd : FuncData} {ps : List Str} (F : Fun K x qual st f fd) (n : Nat) (ks : List Str) (g : List Value → List Value → List Value) (gV : List V → List V → List V)
    (hrel : ∀ {vs : List V} {us : List Value} {zs : List V} {ws : List Value}, Vals vs us → Vals zs ws → Vals (gV vs zs) (g us ws))
    (h : ∀ (kV doc pm : Value) (an : Option Addr) (cdv ct : Value) (us ws : List Value), us.length = n → ws.length = ks.length → bindArgs (PySem.W.fnOf x qual (defArgs st) (defBody st) (defScope st) .none kV doc pm an cdv ct) ⟨us, ks.zip ws⟩ = pure (ps.zip (g us ws))) : KBn K fd ps n ks g gV := by
  obtain ⟨oc, od, kV, doc, pm, an, cdv, ct, osl, rfl, lk, hcd⟩ := F.ex
  exact ⟨fun s us ws _ l1 l2 => BindsTo.of_eq (h kV doc pm an cdv ct us ws l1 l2), hrel⟩
theorem Vals.rev {xs : List V} {us : List Value} (r : Vals xs us) : Vals xs.reverse us.reverse := by
  induction r with
  | nil => exact .nil
  | cons h t ih =>
    rw [List.reverse_cons, List.reverse_cons]
    exact ih.append (.cons h .nil)
def spLaw (K : PySem.W.Frag) : Sp := fun vs H Q _ => ∃ (a : Addr) (ns : List Int), vs = [.ref a] ∧ SqL K H a (ns.map V.int) ∧ ns.length ≤ 63 ∧ ∀ H', Q (.bl true) H'
/-- a def of the text, what it keeps, how it is called -/
structure Df (P : Program) (w : World) (K : PySem.W.Frag) (mg : Str → Option Value) (base : Heap) (k : Nat) (f : Addr) (fd : FuncData) (x : Str) (ps : List Str) (sp : Sp) : Prop where
  ok : FnOk P w K mg base CX0 k f fd ps sp
  b : Binds K fd ps []
  kp : PySem.W.keepIn K (.ref f) = true
  m : mg x = some (.ref f)
abbrev letters : Str := "abcdefghijklmnopqrstuvwxyz"
def lowB (z : Str) : Bool := z.cps.toList.all fun c => decide (c ∈ letters.cps.toList)
/-- a comprehension over a text, sign by sign -/
theorem lc_str {z : Str} {g : TG} {te : TE} {vs : List Nat} {σ : L2.St} {H1 : Hp} {D : Addr} {Qd : Hp → Prop} (Pv : Nat → Hp → Prop) (h0 : Pv 0 (upd H1 D (.lst [])))
    (hs : ∀ (i : Nat) (c : Nat) (H : Hp), z.cps.toList[i]? = some c → Pv i H → g (.str ⟨#[c]⟩) (wipe σ vs) H fun σ2 H2 => wipe σ2 vs = wipe σ vs ∧ te σ2 H2 fun y H4 => ∃ acc, H4 D = some (.lst acc) ∧ acc.length < sizeLine ∧ Pv (i + 1) (upd H4 D (.lst (acc ++ [y])))) (hd : ∀ H, Pv z.cps.toList.length H → Qd H) :
    ∃ W : Nat → Nat → Hp → Prop, (∃ m, W 0 m (upd H1 D (.lst []))) ∧ ∀ i m H, W i m H →
      ((Its z).stop i H ∧ Qd H) ∨ ((Its z).go i H ∧ ∃ Nx : Hp → Prop, (∀ H', Nx H' → ∃ m', m' < m ∧ W (i + 1) m' H') ∧ ∀ x H', (Its z).yld i H x H' → g x (wipe σ vs) H' fun σ2 H2 => wipe σ2 vs = wipe σ vs ∧ tYes σ2 H2 fun b H3 =>
        if b = true then te σ2 H3 fun y H4 => ∃ acc, H4 D = some (.lst acc) ∧ acc.length < sizeLine ∧ Nx (upd H4 D (.lst (acc ++ [y]))) else Nx H3) := by
  have hsz : z.cps.size = z.cps.toList.length := (Array.length_toList).symm
  refine ⟨fun i m H => m = z.cps.toList.length - i ∧ i ≤ z.cps.toList.length ∧ Pv i H, ⟨z.cps.toList.length, rfl, Nat.zero_le _, h0⟩, ?_⟩
  rintro i m H ⟨rfl, hi, p⟩
  by_cases hlt : i < z.cps.toList.length
  · refine .inr ⟨(by show i < z.cps.size; omega), Pv (i + 1), fun H' p' => ⟨z.cps.toList.length - (i + 1), by omega, rfl, hlt, p'⟩, fun v H' y => ?_⟩
    obtain ⟨rfl, c, hc, rfl⟩ := y
    refine hs i c H' ?_ p
    rw [Array.getElem?_toList]
    exact hc
  · have e : i = z.cps.toList.length := by omega
    subst e
    exact .inl ⟨(by show z.cps.size ≤ _; omega), hd H p⟩
theorem kSq {z : Str} {i : Nat} {c : Nat} (f : Nat → Bool) (h : z.cps.toList[i]? = some c) : (z.cps.toList.take (i + 1)).map f = (z.cps.toList.take i).map f ++ [f c] := by
  rw [List.take_add_one, h, List.map_append]
  rfl
/-! ### names -/
theorem tlen (z : Str) : z.length = (tl z).length := str_len z
theorem lowB_tl (z : Str) : lowB z = (tl z).all fun c => decide (c ∈ letters.cps.toList) := rfl
theorem lowB_of {z : Str} (h : ∀ c ∈ tl z, c ∈ letters.cps.toList) : lowB z = true := by
  rw [lowB_tl, List.all_eq_true]
  intro c hc
  exact decide_eq_true (h c hc)
theorem tl_cut (z : Str) (lo hi : Option Int) : tl (cutS z lo hi) = ((tl z).drop (HT.sIx z.length 0 lo)).take (HT.sIx z.length z.length hi - HT.sIx z.length 0 lo) := rfl
theorem tl_cut_to (z : Str) (k : Int) (h0 : 0 ≤ k) (h1 : k ≤ (z.length : Int)) : tl (cutS z none (some k)) = (tl z).take k.toNat := by
  obtain ⟨n, rfl⟩ : ∃ n : Nat, k = (n : Int) := ⟨k.toNat, by omega⟩
  rw [tl_cut, HT.sIx_none, HT.sIx_nat, List.drop_zero, Nat.sub_zero, Int.toNat_natCast, Nat.min_eq_left (by omega)]
theorem tl_cut_from (z : Str) (k : Int) (h0 : 0 ≤ k) (h1 : k ≤ (z.length : Int)) : tl (cutS z (some k) none) = (tl z).drop k.toNat := by
  obtain ⟨n, rfl⟩ : ∃ n : Nat, k = (n : Int) := ⟨k.toNat, by omega⟩
  rw [tl_cut, HT.sIx_none, HT.sIx_nat, Int.toNat_natCast, Nat.min_eq_left (by omega), List.take_of_length_le]
  rw [List.length_drop, tlen]
  exact Nat.le_refl _
theorem glue_signs : ∀ cs : List Nat, tl (Txt.join Str.empty (cs.map fun c => (⟨#[c]⟩ : Str))) = cs := by
  have h : ∀ cs : List Nat, joinL [] (cs.map fun c => [c]) = cs := by
    intro cs
    induction cs with
    | nil => rfl
    | cons x r ih =>
      cases r with
      | nil => rfl
      | cons y r => 
        show [x] ++ ([] ++ joinL [] ((y :: r).map fun c => [c])) = x :: y :: r
        rw [ih]
        rfl
  intro cs
  show tl (Builtin.Str.glued _ _) = _
  rw [StrLaws.glued_eq_join, tl_join, List.map_map]
  exact h cs
structure IsNm (z : Str) : Prop where
  low : ∀ c ∈ tl z, c ∈ letters.cps.toList
  l1 : 1 ≤ z.length
  l4 : z.length ≤ 4
def spNames : Sp := fun vs H Q _ => ∃ (b c : Addr) (many : Int), vs = [.ref b, .int many] ∧ Bag H b c ∧ 0 ≤ many ∧ many ≤ 26 ∧
  ∀ (l : Addr) (ws : List Str) (H' : Hp), (ws.length : Int) = many → (∀ z ∈ ws, IsNm z) → Bag H' b c → Kp b H H' → H l = none → H' l = some (.lst (ws.map V.str)) → Q (.ref l) H'
theorem Kp.new {b p : Addr} {H H' : Hp} (k : Kp b H H') (hp : H' p = none) (o : HO) : Kp b H (upd H' p o) := fun a u h n => by rw [upd_ne (ne_of_none (k a u h n) hp)]; exact k a u h n
theorem Kp.free {b c p : Addr} {H H' : Hp} (k : Kp b H H') (B : Bag H' b c) (hp : H' p = none) : H p = none := by
  have hb : p ≠ b := B.fresh hp
  cases e : H p with
  | none => rfl
  | some o =>
    rw [k p o e hb] at hp
    cases hp
theorem Bag.ne_new {H : Hp} {b c q : Addr} (B : Bag H b c) (h : H q = none) : b ≠ q ∧ c ≠ q := by
  obtain ⟨ns, p, r, s, k, B⟩ := B
  exact ⟨ne_of_none B.lb h, ne_of_none B.lc h⟩
theorem Bag.wr {H : Hp} {b c q : Addr} (B : Bag H b c) (n : b ≠ q ∧ c ≠ q) (o : HO) : Bag (upd H q o) b c := by
  obtain ⟨ns, p, r, s, k, B⟩ := B
  exact ⟨ns, p, r, s, k, by rw [upd_ne n.1]; exact B.lb, by rw [upd_ne n.2]; exact B.lc, B.nl, B.p0, B.s0, B.s1, B.r0⟩
theorem Kp.wr {b p : Addr} {H H' : Hp} (k : Kp b H H') (hp : H p = none) (o : HO) : Kp b H (upd H' p o) := fun a u h n => by rw [upd_ne (ne_of_none h hp)]; exact k a u h n
/-! ### a target whose last name has a star -/
section
open PySem.Spec PyProof.Rows
variable {prog : Program} {w : World} {A : Around} {E : Value → Shared → Prop} {s : Shared}
/-- a walk that begins further on -/
theorem walks_from {I : Addr} {fp wr : List Addr} {G : Array GenState → Array GenState → Prop} {n : Nat} {P : Nat → Value → Prop} {St : Nat → Shared → Prop} (k : Nat) (W : WalksS prog w A I fp wr G (n + k) P St) :
    WalksS prog w A I fp wr G n (fun i => P (i + k)) (fun i => St (i + k)) where
  sub := W.sub
  grefl := W.grefl
  gtrans := W.gtrans
  frame := fun i => W.frame (i + k)
  item := fun i s Q E hi st hQ => W.item (i + k) s Q E (by omega) st fun v s' p st' => hQ v s' p (by rw [show i + 1 + k = i + k + 1 by omega]; exact st')
  done := fun s Q E st hQ => W.done s Q E st hQ
  self := fun i => W.self (i + k)
theorem itemsOf_list {items acc : Array Value} {k n : Nat} (hn : n + k = items.size) (h : ItemsOf (fun i v => items[i + k]? = some v) acc n) : acc.toList = items.toList.drop k := by
  obtain ⟨h1, h2⟩ := h
  refine List.ext_getElem? fun j => ?_
  rw [List.getElem?_drop, Array.getElem?_toList, Array.getElem?_toList]
  cases e : acc[j]? with
  | some v =>
    rw [Nat.add_comm k j]
    exact (h2 j v e).symm
  | none =>
    have hj : acc.size ≤ j := Array.getElem?_eq_none_iff.mp e
    exact (Array.getElem?_eq_none_iff.mpr (by omega)).symm
theorem unpack_star {t : Addr} {items : Array Value} {i : Nat} {Q : List Value → Shared → Prop} (hh : A.handled = none) (ht : IsTup s.heap t items) (hi : i ≤ items.size) (hsz : items.size ≤ sizeLine)
    (hQ : ∀ (h' : Heap) (tk : Nat) (D : Addr), (∀ b o, s.heap.get? b = some o → h'.get? b = some o) → s.heap.get? D = none → h'.get? D = some { cls := .type "list", data := .seq (items.toList.drop i).toArray } → Q (items.toList.take i ++ [.ref D]) { s with heap := h', toks := tk }) :
    wpAny (model prog w) A (unpackItems (.ref t) (i + 1) (some i)) Q E s := by
  have hlt : t ≠ s.heap.objs.size := by obtain ⟨o, ho, _⟩ := ht; exact Nat.ne_of_lt (Heap.lt_size ho)
  obtain ⟨n, hn⟩ : ∃ n, n + i = items.size := ⟨items.size - i, by omega⟩
  unfold unpackItems
  refine wpAny_bind ?_
  unfold notIterableAtAll
  refine wpAny_bind (wpAny_specialOf ht.typeIs slot_tuple_iter.lookup ?_)
  refine wpAny_pure ?_
  simp only [Bool.false_eq_true, if_false]
  refine wpAny_bind (wpAny_holding (iter_tuple ht ?_))
  refine wpAny_bind (wpAny_holding (draw_tuple hlt i 0 _ _ ⟨_, Heap.get?_push_size _ rfl, rfl, rfl⟩ (ht.push _) (by omega) fun h₁ hit₁ hs₁ => ?_))
  rw [List.drop_zero]
  have hl1 : (items.toList.take i).length = i := by rw [List.length_take, Array.length_toList]; omega
  rw [if_neg (by rw [hl1]; omega)]
  have ht₁ : IsTup h₁ t items := (ht.push _).extBut hs₁.extBut hlt
  have hsi : s.heap.objs.size < h₁.objs.size := by
    obtain ⟨o, ho, _⟩ := hit₁
    exact Heap.lt_size ho
  have W0 := (Walks.tuple (prog := prog) (w := w) (A := A.in1) hh s.heap.objs.size t hlt items).toS
  rw [← hn] at W0
  have W1 := walks_from i W0
  have hit2 : h₁.IsTupleIter s.heap.objs.size t (0 + i) := by
    have e : (0 : Nat) + i = i := by omega
    rw [e] at hit₁ ⊢
    exact hit₁
  have ht2 : h₁.IsTuple t items := ht₁
  refine wpAny_bind (wpAny_holding (wpAny_collect_iter (.inr (.inr (.inr rfl))) W1 (fun _ _ st => let ⟨o, ho, hc, _⟩ := st.1; ⟨o, ho, hc⟩) ⟨hit2, ht2⟩ (fun b hb => ?_) (List.mem_cons_self ..) (fun s' acc hm hacc => ?_) (by omega)))
  · rcases List.mem_cons.mp hb with e | hb
    · rw [e]; exact hsi
    · rw [List.mem_singleton.mp hb]
      obtain ⟨o, ho, _⟩ := ht2
      exact Heap.lt_size ho
  · have ea : acc.toList = items.toList.drop i := itemsOf_list hn hacc
    rw [ea]
    have e0 : i + 1 - 1 - i = 0 := by omega
    rw [e0]
    show wpAny _ _ (if (List.drop i items.toList).length < 0 then _ else _) _ _ _
    rw [if_neg (Nat.not_lt_zero _)]
    have e1 : (List.drop i items.toList).length - 0 = (List.drop i items.toList).length := Nat.sub_zero _
    have e2 : List.take ((List.drop i items.toList).length - 0) (List.drop i items.toList) = List.drop i items.toList := by rw [e1, List.take_length]
    have e3 : List.drop ((List.drop i items.toList).length - 0) (List.drop i items.toList) = [] := by rw [e1, List.drop_length]
    rw [e2, e3]
    have hlen : (List.drop i items.toList).length ≤ sizeLine := by rw [List.length_drop, Array.length_toList]; omega
    refine wpAny_bind (wpAny_newObj_type ?_ ?_)
    · refine wpAny_pure ?_
      rw [List.append_nil, Moved.eq_with hm]
      have k0 : ∀ b o, s.heap.get? b = some o → s'.heap.get? b = some o := fun b o e => by
        have nb : b ≠ s.heap.objs.size := Nat.ne_of_lt (Heap.lt_size e)
        exact hm.heap b o (fun hb => nb (List.mem_singleton.mp hb)) (hs₁.extBut b o nb (Heap.get?_push_of_some _ e))
      refine hQ (s'.heap.push _) s'.toks s'.heap.objs.size (fun b o e => Heap.get?_push_of_some _ (k0 b o e)) ?_ (Heap.get?_push_size _ rfl)
      cases e : s.heap.get? s'.heap.objs.size with
      | none => rfl
      | some o => exact absurd (Heap.lt_size (k0 _ o e)) (Nat.lt_irrefl _)
    · show (List.drop i items.toList).toArray.size ≤ sizeLine
      rw [List.size_toArray]
      exact hlen
end
section
open PySem.Spec PyProof.Rows
variable {X : Cx}
/-- the last of several targets, with a star -/
theorem pgs_star {e : Expr} {p : Pos} {g : TG} (h1 : PG X e g) : PGs X [.Starred e p] (gCons g gNil) := by
  refine ⟨fun pins s σ H vs us Q I r h => ?_⟩
  obtain ⟨v, vr, e1, h⟩ := h
  subst e1
  cases r with
  | cons r rr =>
    show wpAny _ _ (assignInOrder [assign e X.env] _) _ _ _
    refine assignInOrder_cons (thn (h1.run pins s σ H _ _ _ I r h) fun _ s1 ⟨σ1, H1, I1, q1⟩ => ?_)
    obtain ⟨rfl, q1⟩ := q1
    cases rr
    exact assignInOrder_nil ⟨σ1, H1, I1, q1⟩
/-- a, b, *c = a tuple: n names ahead of the star -/
def gStar (K : PySem.W.Frag) (n : Nat) (t : TGs) : TG := fun v σ H Q => ∃ a xs, v = .ref a ∧ SqT K H a xs ∧ n ≤ xs.length ∧ ∀ p, H p = none → t (xs.take n ++ [.ref p]) σ (upd H p (.lst (xs.drop n))) Q
theorem pg_star {es : List Expr} {k : Nat} {pos : Pos} {t : TGs} {n : Nat} (hc : X.calm = true) (h : PGs X es t)
    (hn : (assignEach es X.env).length = n + 1 := by rfl) (hst : (assignEach es X.env).findIdx? (·.1) = some n := by rfl) : PG X (.Tuple es k pos) (gStar X.K n t) := by
  refine ⟨fun pins s σ H v u Q I r hw => ?_⟩
  obtain ⟨a, xs, e1, hq, hl, hw⟩ := hw
  subst e1
  cases r
  obtain ⟨its, rv, ht, hz⟩ := I.tuple hq
  have hlen := rv.length
  rw [PyProof.Rows.assign_Tuple]
  refine wpAny_bind (wpAny_standAt ?_)
  unfold unpack
  rw [hn, hst]
  refine wpAny_bind (wpAny_holding (unpack_star (I.ok.hd hc) ht (by rw [List.size_toArray]; omega) (by rw [List.size_toArray]; omega) fun h' tk D k0 hD hL => ?_))
  have hn0 : H D = none := I.hok.gone hD
  have e2 : its.toArray.toList = its := List.toList_toArray ..
  rw [e2] at hL ⊢
  have r2 : Vals (xs.drop n) (its.drop n) := rv.drop n
  have I1 : Inv X pins σ (upd H D (.lst (xs.drop n))) { s with heap := h', toks := tk } := I.laidN k0 hD hn0 ⟨by rw [List.length_drop]; omega, its.drop n, _, r2, hL⟩
  exact h.run pins _ σ _ (xs.take n ++ [.ref D]) _ Q I1 ((rv.take n).append (show Vals [V.ref D] [Value.ref D] from .cons (show RelV (V.ref D) (Value.ref D) from rfl) .nil)) (hw D hn0)
end
/-! ### enumerate of a tuple -/
section
open PySem.Spec PyProof.Rows
theorem meets_enum1 {v : Value} {o : Obj} {Hs : Heap → Prop} (Bg : Begins v o Hs) :
    Meets (Builtin.«enumerate.__new__» ⟨[.type "enumerate", v], []⟩) (fun _ R s => Hs s.heap ∧
      R (.ok (.ret (.ref (s.heap.push o).objs.size))) { s with heap := (s.heap.push o).push { cls := .type "enumerate", data := .fields #[.none, .bool false, .ref s.heap.objs.size, rawInt 0, .none, .none] } }) :=
  .of_wp fun prog w A R s h => by
    obtain ⟨hp, g, d, tk, os⟩ := s
    obtain ⟨h1, h⟩ := h
    have hsub := sub_enumerate
    have start : ∀ {A' : Around} {E : Value → Shared → Prop} {Q : Value → Shared → Prop}, Q (.ref hp.objs.size) ⟨hp.push o, g, d, tk, os⟩ → wpAny (model prog w) A' (pyIter v) Q E ⟨hp, g, d, tk, os⟩ :=
      fun q => Bg.iter prog w _ _ ⟨hp, g, d, tk, os⟩ _ h1 q
    wp_walk using start
    refine wpAny_stack_any fun st => wpAny_pure ?_
    split
    · rename_i c _ _ _ _ _
      cases (c == Value.type "enumerate") <;> (wp_walk using start; exact ⟨_, rfl, h⟩)
    · wp_walk using start
      exact ⟨_, rfl, h⟩
variable {prog : Program} {w : World} {A : Around} {E : Value → Shared → Prop} {s : Shared}
theorem call_enumT {t : Addr} {items : Array Value} {Q : Value → Shared → Prop} (ht : s.heap.IsTuple t items)
    (h : ∀ h', IsEnum h' (s.heap.objs.size + 1) s.heap.objs.size 0 .none → h'.IsTupleIter s.heap.objs.size t 0 →
      (∀ b o, s.heap.get? b = some o → h'.get? b = some o) → Q (.ref (s.heap.objs.size + 1)) { s with heap := h' }) : wpAny (model prog w) A (call (.type "enumerate") [.ref t]) Q E s := by
  refine callType_new F.called_enumerate (by decide) (F.typeCall_enumerate_1 _) (F.newCall_enumerate_1 _) (fun obj => F.args_object_init_2 obj _) F.entry_enumerate_new
    (meets_enum1 (begins_tuple t items)) ⟨ht, ?_⟩
  generalize ho : ({ cls := .type "tuple_iterator", data := .fields #[.ref t, .int 0 0] } : Obj) = oi
  have hf : oi.isFreed = false := by rw [← ho]; rfl
  have hz : (s.heap.push oi).objs.size = s.heap.objs.size + 1 := Heap.size_push ..
  show _ ∧ _
  rw [hz]
  have hit := Heap.get?_push_size s.heap (o := oi) hf
  have he := Heap.get?_push_size (s.heap.push oi) (o := { cls := .type "enumerate", data := .fields #[.none, .bool false, .ref s.heap.objs.size, rawInt 0, .none, .none] }) rfl
  rw [hz] at he
  exact ⟨⟨_, he, rfl⟩, h _ he ⟨_, Heap.get?_push_of_some _ hit, by rw [← ho], by rw [← ho]; rfl⟩ fun b o x => Heap.get?_push_of_some _ (Heap.get?_push_of_some _ x)⟩
end
/-- the tuple at a, each item in a new pair with its number -/
def IteT (K : PySem.W.Frag) (a : Addr) : It where
  go := fun i H => ∃ (xs : List V) (x : V), SqT K H a xs ∧ xs[i]? = some x
  yld := fun i H v H' => ∃ T x, v = .ref T ∧ H T = none ∧ H' = upd H T (.tup [.int (i : Nat), x]) ∧ ∀ xs, SqT K H a xs → xs[i]? = some x
  stop := fun i H => ∃ xs : List V, SqT K H a xs ∧ xs.length ≤ i
open PySem.Spec PyProof.Rows in
theorem turn_enumT {P : Program} {w : World} {K : PySem.W.Frag} {elts : List Expr} {kk : Nat} {tpos : Pos} (a e it : Addr) :
    Turn P w K (.Tuple elts kk tpos) (IteT K a) [e, it] e (fun i h => (∃ old, IsEnum h e it ((i : Nat) : Int) old) ∧ h.IsTupleIter it a i ∧ e ≠ it ∧ a ≠ it ∧ a ≠ e) where
  mem := List.mem_cons_self ..
  obj := fun i h st b hb => by
    obtain ⟨⟨old, he⟩, ⟨o, ho, hc, hd⟩, _⟩ := st
    rcases List.mem_cons.mp hb with z | hb
    · subst z
      refine ⟨_, he, fun v q => ?_⟩
      cases q
    · exact ⟨o, by rw [List.mem_singleton.mp hb]; exact ho, fun v q => by rw [hd] at q; cases q⟩
  keep := fun i h h' st k => by
    obtain ⟨⟨old, he⟩, hi, hne⟩ := st
    exact ⟨⟨old, k e (List.mem_cons_self ..) _ he⟩, hi.at fun o q => k it (List.mem_cons_of_mem _ (List.mem_singleton.mpr rfl)) o q, hne⟩
  item := by
    intro X hP hw hK hc i pins s σ H E I hf st hg
    subst hP hw hK
    obtain ⟨⟨old, he⟩, hit, hne, nai, nae⟩ := st
    obtain ⟨xs, x, hq, hx⟩ := hg
    obtain ⟨its, rv, ht, hz⟩ := I.tuple hq
    obtain ⟨u, hu, ru⟩ := rv.get hx
    have hil : i < its.toArray.size := by
      rw [List.size_toArray]
      exact (List.getElem?_eq_some_iff.mp hu).1
    have hel : e < s.heap.objs.size := Heap.lt_size he
    have hitl : it < s.heap.objs.size := by
      obtain ⟨_, q, _⟩ := hit
      exact Heap.lt_size q
    have D := Draws.tuple (prog := X.prog) (w := X.w) (A := X.A.in1) (I.ok.hd hc) it a nai its.toArray
    refine wpAny_pyNext_enum_itemD D he ⟨hit, ht⟩ hil hne (fun hm => ?_) fun v h' tk hv ho st' hT hsz hk => ?_
    · rcases List.mem_cons.mp hm with z | hm
      · exact hne z
      · exact nae (List.mem_singleton.mp hm).symm
    have ev : v = u := by
      have q : its.toArray[i]? = some u := by simpa using hu
      rw [hv] at q
      exact Option.some.inj q
    subst ev
    refine ⟨_, rfl, wpAny_letOwnedTupleGo_enum (s := { s with heap := h', toks := tk + 1 }) ho fun h2 he2 sb => ?_⟩
    have back : ∀ b o, b ≠ e → h'.get? b = some o → h2.get? b = some o := fun b o nb q => (sb.2 b nb).trans q
    have new : ObjOk X.prog X.w (upd H s.heap.objs.size (.tup [.int (i : Nat), x])) h2 s.heap.objs.size (.tup [.int (i : Nat), x]) :=
      ⟨(by show 2 ≤ sizeLine; decide), [.int i tk, v], .cons ⟨_, rfl⟩ (.cons ru .nil), ⟨_, back _ _ (Nat.ne_of_gt hel) hT, rfl, _, rfl⟩⟩
    have keepO : ∀ b ob, b ∉ [e, it] → s.heap.get? b = some ob → h2.get? b = some ob := fun b ob hb q => by
      have n1 : b ≠ e := fun z => hb (by simp [z])
      have n2 : b ≠ it := fun z => hb (by simp [z])
      exact back b ob n1 (hk b ob n1 n2 q)
    have I1 : Inv X pins σ (upd H s.heap.objs.size (.tup [.int (i : Nat), x])) { s with heap := h2, toks := tk + 1 } := I.turnedNew (ch := [e, it]) keepO hf (Nat.le_refl _) new
    refine ⟨.ref s.heap.objs.size, _, I1, rfl, ⟨_, x, rfl, I.hok.fresh (Nat.le_refl _), rfl, fun ys hy => by rw [I.tuple_inj hy hq]; exact hx⟩, ⟨⟨v, ?_⟩, st'.1.at fun o q => back it o hne.symm q, hne, nai, nae⟩, fun b hb => ?_⟩
    · have e1 : ((i + 1 : Nat) : Int) = (i : Int) + 1 := by omega
      rw [e1]
      exact he2
    · have hb' : b < s.heap.objs.size := by
        rcases List.mem_cons.mp hb with z | hb
        · rw [z]; exact hel
        · rw [List.mem_singleton.mp hb]; exact hitl
      rw [upd_ne (Nat.ne_of_lt hb')]
      exact (hf b hb).1
  done := by
    intro X hP hw hK hc i pins s σ H E I hf st hg
    subst hP hw hK
    obtain ⟨⟨old, he⟩, hit, hne, nai, nae⟩ := st
    obtain ⟨xs, hq, hx⟩ := hg
    obtain ⟨its, rv, ht, hz⟩ := I.tuple hq
    obtain ⟨f0, f1, f2, f3, f4, f5⟩ := hf it (List.mem_cons_of_mem _ (List.mem_singleton.mpr rfl))
    have hend : its.toArray[i]? = none := Array.getElem?_eq_none_iff.mpr (by rw [List.size_toArray, ← rv.length]; exact hx)
    have D : Draws X.prog X.w X.A.in1 it [it, a] 0 (fun _ _ => False) (fun _ h => h.IsTupleIter it a i ∧ h.IsTuple a its.toArray) := {
      live := fun _ _ st => let ⟨o, ho, _⟩ := st.1; ⟨o, ho⟩
      frame := fun _ _ _ st hk => ⟨st.1.at fun o q => hk it (List.mem_cons_self ..) o q, st.2.at fun o q => hk a (List.mem_cons_of_mem _ (List.mem_singleton.mpr rfl)) o q⟩
      item := fun _ _ _ _ hi => absurd hi (Nat.not_lt_zero _)
      done := fun s2 Q2 E2 st hE => wpAny_nextOf_tuple_end (I.ok.hd hc) st.1 st.2 hend hE }
    exact wpAny_pyNext_enum_endD D he ⟨hit, ht⟩ fun h' eb => ⟨rfl, I.turned (t' := s.toks) (fun b o hb q => eb b o hb q) f0 f1 f3 f4 f5⟩
  self := fun A i s Q E st h => wpAny_pyIter_enum st.1.choose_spec h
def iEnumT (K : PySem.W.Frag) (ta : TA) : TI := fun σ H R => ta σ H fun vs H1 => ∃ a xs, vs = [.ref a] ∧ SqT K H1 a xs ∧ R (IteT K a) H1
open PySem.Spec PyProof.Rows in
theorem pi_enumT {X : Cx} {e : Expr} {ta : TA} {p pos tpos : Pos} {elts : List Expr} {kk : Nat} (hg : Gl X "enumerate") (hm : X.mg "enumerate" = none) (ha : PA X [e] ta) (hs : starEach [e] X.env = [(false, eval e X.env)] := by rfl) :
    PI X (.Tuple elts kk tpos) (.Call (.Name "enumerate" p) [e] [] pos) (iEnumT X.K ta) := by
  refine ⟨fun pins s σ H R I h => ?_⟩
  refine Call_ (ld_blt I hg hm boot_enumerate (PyProof.Rows.callWith_type1 (thn (ha.run pos pins s σ H _ I h) fun us s1 ⟨vs, H1, I1, r1, a, xs, ex, hq, q⟩ => ?_) hs rfl))
  subst ex
  obtain ⟨u, rfl, ru⟩ := vals1 r1
  cases ru
  obtain ⟨its, rv, ht, hz⟩ := I1.tuple hq
  have hal : a < s1.heap.objs.size := by
    obtain ⟨o, ho, _⟩ := id ht
    exact Heap.lt_size ho
  refine call_enumT (show s1.heap.IsTuple a its.toArray from ht) fun h' he hit hk => wpAny_pyIter_enum he ?_
  have I2 : Inv X pins σ H1 { s1 with heap := h' } := I1.kept (t' := s1.toks) hk
  refine ⟨s1.heap.objs.size + 1, [s1.heap.objs.size + 1, s1.heap.objs.size], _, _, H1, rfl, I2, turn_enumT a (s1.heap.objs.size + 1) s1.heap.objs.size, ⟨⟨.none, he⟩, hit, Nat.succ_ne_self _, Nat.ne_of_lt hal, Nat.ne_of_lt (Nat.lt_succ_of_lt hal)⟩, fun b hb => ?_, q⟩
  have hle : s1.heap.objs.size ≤ b := by
    rcases List.mem_cons.mp hb with z | hb
    · rw [z]; exact Nat.le_succ _
    · rw [List.mem_singleton.mp hb]; exact Nat.le_refl _
  exact I1.fpOk hle (I1.hok.fresh hle)
/-- a loop over enumerate of a tuple -/
theorem for_enumT {K : PySem.W.Frag} {a : Addr} {xs : List V} {g : TG} {tb : TS} {D : Ends} {σ : L2.St} {H : Hp} (Pv : Nat → L2.St → Hp → Prop) (h0 : Pv 0 σ H) (hq : ∀ i σ H, Pv i σ H → SqT K H a xs)
    (hs : ∀ (i : Nat) (x : V) (T : Addr) (σ : L2.St) (H : Hp), xs[i]? = some x → Pv i σ H → H T = none → g (.ref T) σ (upd H T (.tup [.int (i : Nat), x])) fun σ2 H2 => tb { D with nx := Pv (i + 1), ct := Pv (i + 1), bk := D.nx } σ2 H2) (hd : ∀ σ H, Pv xs.length σ H → D.nx σ H) :
    ∃ W : Nat → Nat → L2.St → Hp → Prop, (∃ m, W 0 m σ H) ∧ ∀ i m σ H, W i m σ H →
      ((IteT K a).stop i H ∧ D.nx σ H) ∨ ((IteT K a).go i H ∧ ∃ N : L2.St → Hp → Prop, (∀ σ' H', N σ' H' → ∃ m', m' < m ∧ W (i + 1) m' σ' H') ∧ ∀ v H', (IteT K a).yld i H v H' → g v σ H' fun σ2 H2 => tb { D with nx := N, ct := N, bk := D.nx } σ2 H2) := by
  refine ⟨fun i m σ H => m + i = xs.length ∧ Pv i σ H, ⟨xs.length, rfl, h0⟩, ?_⟩
  rintro i m σ H ⟨hm, p⟩
  have qx := hq i σ H p
  by_cases hlt : i < xs.length
  · refine .inr ⟨⟨xs, _, qx, List.getElem?_eq_getElem hlt⟩, Pv (i + 1), fun σ' H' p' => ⟨m - 1, by omega, by omega, p'⟩, ?_⟩
    rintro v H' ⟨T, x, rfl, hT, rfl, f⟩
    exact hs i x T σ H (f xs qx) p hT
  · have e : i = xs.length := by omega
    subst e
    exact .inl ⟨⟨xs, qx, Nat.le_refl _⟩, hd σ H p⟩
abbrev sIsInteger : Stmt := top 10
abbrev sIsNumber : Stmt := top 11
def nameB (z : Str) : Bool := decide ((1 : Int) ≤ (z.length : Int)) && decide ((z.length : Int) ≤ 4) && lowB z
def spName (K : PySem.W.Frag) : Sp := fun vs H Q _ => ∃ x : V, vs = [x] ∧ ((∃ z : Str, x = .str z ∧ z.length ≤ 1000 ∧ ∀ H', Same H H' → Q (.bl (nameB z)) H') ∨
  (∃ t : String, TyX K H x (.type t) ∧ kitB t "str" = some false ∧ ∀ H', Same H H' → Q (.bl false) H'))
structure NameTxt (mg : Str → Option Value) : Prop where
  isi : mg "isinstance" = none
  str : mg "str" = none
  int : mg "int" = none
  bool : mg "bool" = none
  len : mg "len" = none
  all : mg "all" = none
  low : ∃ t, mg "LETTERS" = some (.str letters t)
  most : ∃ t, mg "LONGEST_NAME" = some (.int 4 t)
def spInteger (K : PySem.W.Frag) : Sp := fun vs H Q _ => ∃ (x : V) (t : String) (bi bb : Bool), vs = [x] ∧ TyX K H x (.type t) ∧ kitB t "int" = some bi ∧ kitB t "bool" = some bb ∧ Q (.bl (bi && !bb)) H
theorem scInteger : FnScope ["value"] ["value"] (defScope sIsInteger) := ⟨rfl, rfl, rfl, by decide +kernel, rfl, by decide +kernel, by decide +kernel⟩
theorem ok_isinteger {f : Addr} {fd : FuncData} (F : Fun K "is_integer" "is_integer" sIsInteger f fd) (T : NameTxt mg) : FnOk P w K mg base CX0 1 f fd ["value"] (spInteger K) := by
  refine F.ok scInteger (fun vs H Q E h => ?_) (fun cdv A outer s H vs Q E hr h => ?_)
  · obtain ⟨x, t, bi, bb, rfl, _⟩ := h
    rfl
  obtain ⟨x, t, bi, bb, rfl, ty, h1, h2, q⟩ := h
  refine ⟨_, pss_one (ps_ret (pe_and (pe_callB call_isi (by rfl) T.isi (by decide +kernel) (pa_cons (pv 0) (pa_cons (pe_bltn (v := .ty "int") (by rfl) T.int (by decide +kernel) rfl) pa_nil)))
    (pe_one (pe_not (pe_callB call_isi (by rfl) T.isi (by decide +kernel) (pa_cons (pv 0) (pa_cons (pe_bltn (v := .ty "bool") (by rfl) T.bool (by decide +kernel) rfl) pa_nil))))))), ?_⟩
  refine ⟨_, rfl, _, _, _, _, bi, rfl, .ty _, ty, kit_ty h1, _, rfl, ?_⟩
  cases bi with
  | true =>
    refine iteT ?_
    exact ⟨_, rfl, _, _, _, _, bb, rfl, .ty _, ty, kit_ty h2, _, rfl, q⟩
  | false => exact iteF q
def spNumber (K : PySem.W.Frag) : Sp := fun vs H Q _ => ∃ (x : V) (lo hi : Int), vs = [x, .int lo, .int hi] ∧ ((∃ i, x = .int i ∧ Q (.bl (decide (lo ≤ i) && decide (i ≤ hi))) H) ∨
  (∃ (t : String) (bi bb : Bool), TyX K H x (.type t) ∧ kitB t "int" = some bi ∧ kitB t "bool" = some bb ∧ (bi && !bb) = false ∧ Q (.bl false) H))
theorem scNumber : FnScope ["value", "least", "most"] ["value", "least", "most"] (defScope sIsNumber) := ⟨rfl, rfl, rfl, by decide +kernel, rfl, by decide +kernel, by decide +kernel⟩
theorem ok_isnumber {f g : Addr} {fd gd : FuncData} (F : Fun K "is_number" "is_number" sIsNumber f fd) (G : FnOk P w K mg base CX0 1 g gd ["value"] (spInteger K)) (bG : Binds K gd ["value"] []) (kG : PySem.W.keepIn K (.ref g) = true) (mG : mg "is_integer" = some (.ref g)) :
    FnOk P w K mg base CX0 2 f fd ["value", "least", "most"] (spNumber K) := by
  refine F.ok scNumber (fun vs H Q E h => ?_) (fun cdv A outer s H vs Q E hr h => ?_)
  · obtain ⟨x, lo, hi, rfl, _⟩ := h
    rfl
  obtain ⟨x, lo, hi, rfl, h⟩ := h
  refine ⟨_, pss_one (ps_ret (pe_and (pe_call G hr (by rfl) mG kG bG .nil pass0 (pa_cons (pv 0) pa_nil)) (pe_one (pe_chain op_le op_le (pv 1) (pv 0) (pv 2))))), ?_⟩
  rcases h with ⟨i, rfl, q⟩ | ⟨t, bi, bb, ty, h1, h2, h3, q⟩
  · refine ⟨_, rfl, _, "int", true, false, rfl, .base (.int i), by decide +kernel, by decide +kernel, _, rfl, iteT ?_⟩
    refine ⟨_, rfl, _, rfl, lo, i, rfl, rfl, _, rfl, ?_⟩
    cases h : decide (lo ≤ i) with
    | true =>
      rw [h, Bool.true_and] at q
      exact iteT ⟨_, rfl, i, hi, rfl, rfl, q⟩
    | false =>
      rw [h, Bool.false_and] at q
      exact iteF q
  · refine ⟨_, rfl, _, t, bi, bb, rfl, ty, h1, h2, _, rfl, ?_⟩
    rw [h3]
    exact iteF q
/-! ### parts, their words -/
structure Tm where
  n : Int
  d : Int
  a : Str
inductive Pt where
  | flat (k w : Str) (es : List Str)
  | mix (w : Str) (ts : List Tm)
  | use (w p : Str) (es : List Str)
/-- place by place -/
def All2 {α β : Type} (R : α → β → Prop) (xs : List α) (ys : List β) : Prop := xs.length = ys.length ∧ ∀ (i : Nat) (x : α) (y : β), xs[i]? = some x → ys[i]? = some y → R x y
theorem All2.mono {α β : Type} {R S : α → β → Prop} {xs : List α} {ys : List β} (h : All2 R xs ys) (f : ∀ x y, R x y → S x y) : All2 S xs ys := ⟨h.1, fun i x y a b => f x y (h.2 i x y a b)⟩
theorem All2.nil {α β : Type} {R : α → β → Prop} : All2 R [] [] := ⟨rfl, fun i x y h => by simp at h⟩
theorem All2.snoc {α β : Type} {R : α → β → Prop} {xs : List α} {ys : List β} {x : α} {y : β} (h : All2 R xs ys) (r : R x y) : All2 R (xs ++ [x]) (ys ++ [y]) := by
  refine ⟨by rw [List.length_append, List.length_append, h.1]; rfl, fun i u v hu hv => ?_⟩
  rw [List.getElem?_append] at hu hv
  rw [← h.1] at hv
  by_cases hi : i < xs.length
  · rw [if_pos hi] at hu hv
    exact h.2 i u v hu hv
  · rw [if_neg hi] at hu hv
    cases hk : i - xs.length with
    | zero =>
      rw [hk] at hu hv
      cases Option.some.inj hu
      cases Option.some.inj hv
      exact r
    | succ k =>
      rw [hk] at hu
      cases hu
theorem All2.get {α β : Type} {R : α → β → Prop} {xs : List α} {ys : List β} (h : All2 R xs ys) {i : Nat} {x : α} (hx : xs[i]? = some x) : ∃ y, ys[i]? = some y ∧ R x y := by
  have hi : i < ys.length := by
    rw [← h.1]
    exact (List.getElem?_eq_some_iff.mp hx).1
  exact ⟨ys[i], List.getElem?_eq_getElem hi, h.2 i x _ hx (List.getElem?_eq_getElem hi)⟩
def TmAt (H : Hp) (v : V) (t : Tm) : Prop := ∃ a, v = .ref a ∧ H a = some (.tup [.int t.n, .int t.d, .str t.a])
def PtAt (H : Hp) (v : V) : Pt → Prop
  | .flat k w es => ∃ a, v = .ref a ∧ H a = some (.tup (.str k :: .str w :: es.map V.str))
  | .mix w ts => ∃ a b vs, v = .ref a ∧ H a = some (.tup [.str "mix", .str w, .ref b]) ∧ H b = some (.tup vs) ∧ All2 (TmAt H) vs ts
  | .use w p es => ∃ a b, v = .ref a ∧ H a = some (.tup [.str "use", .str w, .str p, .ref b]) ∧ H b = some (.tup (es.map V.str))
/-- tuples that stood, stand -/
def Tups (H H' : Hp) : Prop := ∀ a xs, H a = some (.tup xs) → H' a = some (.tup xs)
theorem Same.tups {H H' : Hp} (s : Same H H') : Tups H H' := fun a xs h => s a _ h
theorem Kp.tups {b c : Addr} {H H' : Hp} (k : Kp b H H') (B : Bag H b c) : Tups H H' := fun a xs h => by
  obtain ⟨ns, p, r, s, q, B⟩ := B
  exact k a _ h (ne_of h B.lb (by intro z; cases z))
theorem Tups.trans {H H1 H2 : Hp} (x : Tups H H1) (y : Tups H1 H2) : Tups H H2 := fun a xs h => y a xs (x a xs h)
theorem TmAt.tups {H H' : Hp} (s : Tups H H') {v : V} {t : Tm} (h : TmAt H v t) : TmAt H' v t := by
  obtain ⟨a, e, h⟩ := h
  exact ⟨a, e, s _ _ h⟩
theorem PtAt.tups {H H' : Hp} (s : Tups H H') {v : V} : ∀ {p : Pt}, PtAt H v p → PtAt H' v p
  | .flat _ _ _, ⟨a, e, h⟩ => ⟨a, e, s _ _ h⟩
  | .mix _ _, ⟨a, b, vs, e, h1, h2, h3⟩ => ⟨a, b, vs, e, s _ _ h1, s _ _ h2, h3.mono fun _ _ h => h.tups s⟩
  | .use _ _ _, ⟨a, b, e, h1, h2⟩ => ⟨a, b, e, s _ _ h1, s _ _ h2⟩
structure SmT (t : Tm) : Prop where
  n0 : -99 ≤ t.n
  n1 : t.n ≤ 99
  d0 : 0 ≤ t.d
  d1 : t.d ≤ 4
  a : t.a.length ≤ 10
def SmP : Pt → Prop
  | .flat k w es => ¬ k = "mix" ∧ ¬ k = "use" ∧ k.length ≤ 10 ∧ w.length ≤ 10 ∧ es.length ≤ 10 ∧ ∀ e ∈ es, e.length ≤ 10
  | .mix w ts => w.length ≤ 10 ∧ ts.length ≤ 10 ∧ ∀ t ∈ ts, SmT t
  | .use w p es => w.length ≤ 10 ∧ p.length ≤ 10 ∧ es.length ≤ 10 ∧ ∀ e ∈ es, e.length ≤ 10
/-- the digits of a number -/
def dec (i : Int) : Str := toString i
theorem dec_len {i : Int} (h0 : -99 ≤ i) (h1 : i ≤ 99) : (dec i).length ≤ 10 := by
  have all : ∀ k : Fin 199, (dec ((k.val : Int) - 99)).length ≤ 10 := by decide +kernel
  have e : i = (((⟨(i + 99).toNat, by omega⟩ : Fin 199).val : Nat) : Int) - 99 := by
    show i = ((i + 99).toNat : Int) - 99
    omega
  rw [e]
  exact all _
theorem dec_log {i : Int} (h0 : -99 ≤ i) (h1 : i ≤ 99) : i.natAbs.log2 < 1920 := by
  have h : i.natAbs < 2 ^ 7 := by omega
  by_cases z : i.natAbs = 0
  · rw [z]; decide
  · exact Nat.lt_trans ((Nat.log2_lt z).mpr h) (by decide)
def tmWords (first : Bool) (t : Tm) : List Str := (if first = true then [] else [("," : Str)]) ++ [dec t.n, t.a] ++ (if t.d = 0 then [] else [("late" : Str), dec t.d])
/-- the words of the first i terms -/
def tmsW (ts : List Tm) : Nat → List Str
  | 0 => []
  | i + 1 => tmsW ts i ++ (match ts[i]? with | some t => tmWords (i == 0) t | none => [])
theorem tmsW_succ {ts : List Tm} {i : Nat} {t : Tm} (h : ts[i]? = some t) : tmsW ts (i + 1) = tmsW ts i ++ tmWords (i == 0) t := by
  show tmsW ts i ++ (match ts[i]? with | some t => tmWords (i == 0) t | none => []) = _
  rw [h]
def ptW : Pt → List Str
  | .flat k w es => w :: k :: es
  | .mix w ts => w :: ("mix" : Str) :: tmsW ts ts.length
  | .use w p es => w :: ("use" : Str) :: p :: es
def psW (ps : List Pt) : Nat → List Str
  | 0 => []
  | i + 1 => psW ps i ++ (match ps[i]? with | some p => ptW p ++ [(";" : Str)] | none => [])
theorem psW_succ {ps : List Pt} {i : Nat} {p : Pt} (h : ps[i]? = some p) : psW ps (i + 1) = psW ps i ++ (ptW p ++ [(";" : Str)]) := by
  show psW ps i ++ (match ps[i]? with | some p => ptW p ++ [(";" : Str)] | none => []) = _
  rw [h]
def netW (ps : List Pt) (os : List Str) : List Str := psW ps ps.length ++ [(">" : Str)] ++ os
def Lo (l : List Str) (n : Nat) : Prop := l.length ≤ n ∧ ∀ z ∈ l, z.length ≤ 10
theorem Lo.app {l m : List Str} {a b : Nat} (h : Lo l a) (g : Lo m b) : Lo (l ++ m) (a + b) := ⟨by rw [List.length_append]; exact Nat.add_le_add h.1 g.1, fun z hz => (List.mem_append.mp hz).elim (h.2 z) (g.2 z)⟩
theorem Lo.le {l : List Str} {a b : Nat} (h : Lo l a) (k : a ≤ b) : Lo l b := ⟨Nat.le_trans h.1 k, h.2⟩
theorem lo_of {l : List Str} (n : Nat) (h : l.length ≤ n) (g : ∀ z ∈ l, z.length ≤ 10) : Lo l n := ⟨h, g⟩
theorem tmWords_lo {b : Bool} {t : Tm} (h : SmT t) : Lo (tmWords b t) 5 := by
  unfold tmWords
  refine Lo.app (a := 3) (b := 2) (Lo.app (a := 1) (b := 2) ?_ ?_) ?_
  · cases b with
    | true => exact ⟨Nat.zero_le _, fun z hz => nomatch hz⟩
    | false => exact ⟨by decide, by decide +kernel⟩
  · refine ⟨by show 2 ≤ 2; decide, fun z hz => ?_⟩
    rcases List.mem_cons.mp hz with e | hz
    · rw [e]; exact dec_len h.n0 h.n1
    · rw [List.mem_singleton.mp hz]; exact h.a
  · by_cases e : t.d = 0
    · rw [if_pos e]; exact ⟨Nat.zero_le _, fun z hz => nomatch hz⟩
    · rw [if_neg e]
      refine ⟨by show 2 ≤ 2; decide, fun z hz => ?_⟩
      have d0 := h.d0
      have d1 := h.d1
      rcases List.mem_cons.mp hz with e | hz
      · rw [e]; decide +kernel
      · rw [List.mem_singleton.mp hz]; exact dec_len (by omega) (by omega)
theorem tmsW_lo {ts : List Tm} (h : ∀ t ∈ ts, SmT t) : ∀ i, Lo (tmsW ts i) (5 * i)
  | 0 => ⟨Nat.le_refl _, fun z hz => nomatch hz⟩
  | i + 1 => by
    show Lo (tmsW ts i ++ (match ts[i]? with | some t => tmWords (i == 0) t | none => [])) (5 * i + 5)
    refine (tmsW_lo h i).app ?_
    cases e : ts[i]? with
    | none => exact ⟨Nat.zero_le _, fun z hz => nomatch hz⟩
    | some t => exact tmWords_lo (h t (List.mem_of_getElem? e))
theorem ptW_lo : ∀ {p : Pt}, SmP p → Lo (ptW p) 60
  | .flat k w es, ⟨_, _, hk, hw, hl, he⟩ => (lo_of (l := [w, k]) 2 (Nat.le_refl _) (fun z hz => by
      rcases List.mem_cons.mp hz with e | hz
      · rw [e]; exact hw
      · rw [List.mem_singleton.mp hz]; exact hk)).app (lo_of 58 (by omega) he)
  | .mix w ts, ⟨hw, hl, ht⟩ => (lo_of (l := [w, ("mix" : Str)]) 2 (Nat.le_refl _) (fun z hz => by
      rcases List.mem_cons.mp hz with e | hz
      · rw [e]; exact hw
      · rw [List.mem_singleton.mp hz]; decide +kernel)).app ((tmsW_lo ht ts.length).le (b := 58) (by omega))
  | .use w p es, ⟨hw, hp, hl, he⟩ => (lo_of (l := [w, ("use" : Str), p]) 3 (Nat.le_refl _) (fun z hz => by
      rcases List.mem_cons.mp hz with e | hz
      · rw [e]; exact hw
      · rcases List.mem_cons.mp hz with e | hz
        · rw [e]; decide +kernel
        · rw [List.mem_singleton.mp hz]; exact hp)).app (lo_of 57 (by omega) he)
theorem psW_lo {ps : List Pt} (h : ∀ p ∈ ps, SmP p) : ∀ i, Lo (psW ps i) (61 * i)
  | 0 => ⟨Nat.le_refl _, fun z hz => nomatch hz⟩
  | i + 1 => by
    show Lo (psW ps i ++ (match ps[i]? with | some p => ptW p ++ [(";" : Str)] | none => [])) (61 * i + 61)
    refine (psW_lo h i).app ?_
    cases e : ps[i]? with
    | none => exact ⟨Nat.zero_le _, fun z hz => nomatch hz⟩
    | some p => exact (ptW_lo (h p (List.mem_of_getElem? e))).app (lo_of (l := [(";" : Str)]) 1 (Nat.le_refl _) (by decide +kernel))
theorem lo_sum {l : List Str} (h : ∀ z ∈ l, z.length ≤ 10) : (l.map (·.length)).sum ≤ 10 * l.length := by
  induction l with
  | nil => exact Nat.le_refl _
  | cons x r ih =>
    have h1 := h x (List.mem_cons_self ..)
    have h2 := ih fun z hz => h z (List.mem_cons_of_mem _ hz)
    rw [List.map_cons, List.sum_cons, List.length_cons]
    omega
/-! ### text_of and its helpers -/
theorem same_wr {H H' : Hp} (s : Same H H') {p : Addr} (h : H p = none) (o : HO) : Same H (upd H' p o) := fun a u e => by rw [upd_ne (ne_of_none e h)]; exact s a u e
theorem strs_app (l m : List Str) : l.map V.str ++ m.map V.str = (l ++ m).map V.str := (List.map_append ..).symm
def spTermsW : Sp := fun vs H Q _ => ∃ (b : Addr) (us : List V) (ts : List Tm), vs = [.ref b] ∧ H b = some (.tup us) ∧ All2 (TmAt H) us ts ∧ ts.length ≤ 10 ∧ (∀ t ∈ ts, SmT t) ∧
  ∀ (l : Addr) (H' : Hp), Same H H' → H l = none → H' l = some (.lst ((tmsW ts ts.length).map V.str)) → Q (.ref l) H'
def spPartW : Sp := fun vs H Q _ => ∃ (x : V) (p : Pt), vs = [x] ∧ PtAt H x p ∧ SmP p ∧ ∀ (l : Addr) (H' : Hp), Same H H' → H l = none → H' l = some (.lst ((ptW p).map V.str)) → Q (.ref l) H'
theorem sameT {H H' : Hp} (s : Same H H') {a : Addr} {xs : List V} (h : SqT K H a xs) : SqT K H' a xs := by
  rcases h with (h | ⟨o, h⟩) | h
  · exact .inl (.inl (s _ _ h))
  · exact .inl (.inr ⟨o, s _ _ h⟩)
  · exact .inr h
theorem sameL {H H' : Hp} (s : Same H H') {a : Addr} {xs : List V} (h : SqL K H a xs) : SqL K H' a xs := s.seq h
/-- text_of over a L of parts -/
def spTextL (K : PySem.W.Frag) : Sp := fun vs H Q _ => ∃ (a o : Addr) (us : List V) (ps : List Pt) (os : List Str), vs = [.ref a, .ref o] ∧ SqL K H a us ∧ All2 (PtAt H) us ps ∧ ps.length ≤ 20 ∧ (∀ p ∈ ps, SmP p) ∧
  (SqT K H o (os.map V.str) ∨ SqL K H o (os.map V.str)) ∧ Lo os 20 ∧ ∀ H', Same H H' → Q (.str (Txt.join " " (netW ps os))) H'
/-- text_of over a T of parts -/
def spTextT (K : PySem.W.Frag) : Sp := fun vs H Q _ => ∃ (a o : Addr) (us : List V) (ps : List Pt) (os : List Str), vs = [.ref a, .ref o] ∧ SqT K H a us ∧ All2 (PtAt H) us ps ∧ ps.length ≤ 20 ∧ (∀ p ∈ ps, SmP p) ∧
  (SqT K H o (os.map V.str) ∨ SqL K H o (os.map V.str)) ∧ Lo os 20 ∧ ∀ H', Same H H' → Q (.str (Txt.join " " (netW ps os))) H'
theorem IsNm.b {z : Str} (h : IsNm z) : nameB z = true := by
  unfold nameB
  have h1 := h.l1
  have h4 := h.l4
  rw [lowB_of h.low, decide_eq_true (by omega), decide_eq_true (by omega)]
  rfl
def bare (t : Tm) : List Str := [dec t.n, t.a] ++ (if t.d = 0 then [] else [("late" : Str), dec t.d])
def commaW : List Tm → List Str
  | [] => []
  | t :: r => ("," : Str) :: (bare t ++ commaW r)
theorem tmWords_first (t : Tm) : tmWords true t = bare t := rfl
theorem tmWords_later (t : Tm) : tmWords false t = ("," : Str) :: bare t := rfl
theorem tmsW_rest {ts : List Tm} : ∀ (k j : Nat), j + k = ts.length → 1 ≤ j → tmsW ts ts.length = tmsW ts j ++ commaW (ts.drop j)
  | 0, j, h, _ => by
    have e : j = ts.length := by omega
    subst e
    rw [List.drop_length]
    show _ = _ ++ []
    rw [List.append_nil]
  | k + 1, j, h, h1 => by
    have hj : j < ts.length := by omega
    rw [tmsW_rest k (j + 1) (by omega) (by omega), tmsW_succ (List.getElem?_eq_getElem hj), List.drop_eq_getElem_cons hj]
    rw [show (j == 0) = false from by simp; omega, tmWords_later, List.append_assoc]
    rfl
theorem tmsW_cons (t : Tm) (r : List Tm) : tmsW (t :: r) (t :: r).length = bare t ++ commaW r := by
  rw [tmsW_rest (ts := t :: r) r.length 1 (by rw [List.length_cons]; omega) (Nat.le_refl _)]
  rw [tmsW_succ (ts := t :: r) (i := 0) (t := t) rfl]
  rfl
/-- what follows a term -/
theorem after_term (l : List Tm) (R : List Str) : ∃ y R', commaW l ++ (";" : Str) :: R = y :: R' ∧ ¬ y = ("late" : Str) := by
  cases l with
  | nil => exact ⟨";", R, rfl, by decide +kernel⟩
  | cons t r => exact ⟨",", bare t ++ commaW r ++ (";" : Str) :: R, rfl, by decide +kernel⟩
theorem dec_semi {i : Int} (h0 : -99 ≤ i) (h1 : i ≤ 99) : ¬ dec i = (";" : Str) := by
  have all : ∀ k : Fin 199, ¬ dec ((k.val : Int) - 99) = (";" : Str) := by decide +kernel
  have e : i = (((⟨(i + 99).toNat, by omega⟩ : Fin 199).val : Nat) : Int) - 99 := by
    show i = ((i + 99).toNat : Int) - 99
    omega
  rw [e]
  exact all _
def OkP : Pt → Prop
  | .flat k w es => IsNm w ∧ ((k = "source" ∧ es = []) ∨ ((k = "plain" ∨ k = "odd" ∨ k = "keep") ∧ ∃ f e, es = [f, e] ∧ IsNm f ∧ IsNm e) ∨ (k = "pair" ∧ ∃ f e g, es = [f, e, g] ∧ IsNm f ∧ IsNm e ∧ IsNm g))
  | .mix w ts => IsNm w ∧ ts.length ≤ 6 ∧ ∀ t ∈ ts, SmT t ∧ IsNm t.a
  | .use w p es => IsNm w ∧ IsNm p ∧ es.length ≤ 4 ∧ ∀ e ∈ es, IsNm e
theorem PtAt.wr {H : Hp} {D : Addr} {us vs : List V} {v : V} {p : Pt} (hD : H D = some (.lst us)) (h : PtAt H v p) : PtAt (upd H D (.lst vs)) v p :=
  h.tups fun a xs e => by rw [upd_ne (ne_of e hD (by intro z; cases z))]; exact e
def partsW : List Pt → List Str
  | [] => []
  | p :: r => ptW p ++ (";" : Str) :: partsW r
theorem psW_rest {ps : List Pt} : ∀ (k j : Nat), j + k = ps.length → psW ps ps.length = psW ps j ++ partsW (ps.drop j)
  | 0, j, h => by
    have e : j = ps.length := by omega
    subst e
    rw [List.drop_length]
    show _ = _ ++ []
    rw [List.append_nil]
  | k + 1, j, h => by
    have hj : j < ps.length := by omega
    rw [psW_rest k (j + 1) (by omega), psW_succ (List.getElem?_eq_getElem hj), List.drop_eq_getElem_cons hj]
    rw [List.append_assoc]
    show psW ps j ++ (ptW ps[j] ++ [(";" : Str)] ++ partsW (ps.drop (j + 1))) = psW ps j ++ (ptW ps[j] ++ (";" : Str) :: partsW (ps.drop (j + 1)))
    rw [List.append_assoc]
    rfl
theorem netW_eq (ps : List Pt) (os : List Str) : netW ps os = partsW ps ++ (">" : Str) :: os := by
  unfold netW
  rw [psW_rest (ps := ps) ps.length 0 (by omega), List.append_assoc]
  rfl
/-! no blank in a word -/
def NoSp (l : List Str) : Prop := ∀ z ∈ l, 32 ∉ tl z
theorem NoSp.app {l m : List Str} (h : NoSp l) (g : NoSp m) : NoSp (l ++ m) := fun z hz => (List.mem_append.mp hz).elim (h z) (g z)
theorem NoSp.cons {x : Str} {l : List Str} (h : 32 ∉ tl x) (g : NoSp l) : NoSp (x :: l) := fun z hz => (List.mem_cons.mp hz).elim (fun e => by rw [e]; exact h) (g z)
theorem NoSp.nil : NoSp [] := fun z hz => nomatch hz
theorem IsNm.sp {z : Str} (h : IsNm z) : 32 ∉ tl z := fun hz => absurd (h.low 32 hz) (by decide +kernel)
theorem IsNm.gt {z : Str} (h : IsNm z) : ¬ z = (">" : Str) := fun e => by
  rw [e] at h
  exact absurd (h.low 62 (by decide +kernel)) (by decide +kernel)
theorem dec_sp {i : Int} (h0 : -99 ≤ i) (h1 : i ≤ 99) : 32 ∉ tl (dec i) := by
  have all : ∀ k : Fin 199, 32 ∉ tl (dec ((k.val : Int) - 99)) := by decide +kernel
  have e : i = (((⟨(i + 99).toNat, by omega⟩ : Fin 199).val : Nat) : Int) - 99 := by
    show i = ((i + 99).toNat : Int) - 99
    omega
  rw [e]
  exact all _
theorem bare_sp {t : Tm} (h : SmT t) (n : IsNm t.a) : NoSp (bare t) := by
  have d0 := h.d0
  have d1 := h.d1
  unfold bare
  refine NoSp.app (.cons (dec_sp h.n0 h.n1) (.cons n.sp .nil)) ?_
  by_cases e : t.d = 0
  · rw [if_pos e]; exact .nil
  · rw [if_neg e]; exact .cons (by decide +kernel) (.cons (dec_sp (by omega) (by omega)) .nil)
theorem comma_sp : ∀ {ts : List Tm}, (∀ t ∈ ts, SmT t ∧ IsNm t.a) → NoSp (commaW ts)
  | [], _ => .nil
  | t :: r, h => .cons (by decide +kernel) ((bare_sp (h t (List.mem_cons_self ..)).1 (h t (List.mem_cons_self ..)).2).app (comma_sp fun u hu => h u (List.mem_cons_of_mem _ hu)))
theorem tms_sp : ∀ {ts : List Tm}, (∀ t ∈ ts, SmT t ∧ IsNm t.a) → NoSp (tmsW ts ts.length)
  | [], _ => .nil
  | t :: r, h => by
    rw [tmsW_cons]
    exact (bare_sp (h t (List.mem_cons_self ..)).1 (h t (List.mem_cons_self ..)).2).app (comma_sp fun u hu => h u (List.mem_cons_of_mem _ hu))
theorem names_sp {l : List Str} (h : ∀ z ∈ l, IsNm z) : NoSp l := fun z hz => (h z hz).sp
theorem pt_sp : ∀ {p : Pt}, OkP p → NoSp (ptW p)
  | .flat k w es, ⟨nw, h⟩ => by
    show NoSp (w :: k :: es)
    refine .cons nw.sp ?_
    rcases h with ⟨e, rfl⟩ | ⟨e, fn, en, rfl, nf, ne⟩ | ⟨e, fn, en, gn, rfl, nf, ne, ng⟩
    · rw [e]; exact .cons (by decide +kernel) .nil
    · refine .cons ?_ (.cons nf.sp (.cons ne.sp .nil))
      rcases e with e | e | e <;> (rw [e]; decide +kernel)
    · rw [e]; exact .cons (by decide +kernel) (.cons nf.sp (.cons ne.sp (.cons ng.sp .nil)))
  | .mix w ts, ⟨nw, _, h⟩ => .cons nw.sp (.cons (by decide +kernel) (tms_sp h))
  | .use w p es, ⟨nw, np, _, h⟩ => .cons nw.sp (.cons (by decide +kernel) (.cons np.sp (names_sp h)))
theorem parts_sp : ∀ {ps : List Pt}, (∀ p ∈ ps, OkP p) → NoSp (partsW ps)
  | [], _ => .nil
  | p :: r, h => (pt_sp (h p (List.mem_cons_self ..))).app (.cons (by decide +kernel) (parts_sp fun u hu => h u (List.mem_cons_of_mem _ hu)))
theorem pt_head : ∀ {p : Pt}, OkP p → ∃ z R, ptW p = z :: R ∧ IsNm z
  | .flat k w es, ⟨nw, _⟩ => ⟨w, _, rfl, nw⟩
  | .mix w ts, ⟨nw, _⟩ => ⟨w, _, rfl, nw⟩
  | .use w p es, ⟨nw, _⟩ => ⟨w, _, rfl, nw⟩
theorem joinL_len (S : List Nat) : ∀ l : List (List Nat), (joinL S l).length ≤ (l.map List.length).sum + l.length * S.length
  | [] => Nat.zero_le _
  | [p] => by
    show p.length ≤ _
    rw [List.map_cons, List.sum_cons]
    omega
  | p :: q :: r => by
    show (p ++ (S ++ joinL S (q :: r))).length ≤ _
    have ih := joinL_len S (q :: r)
    rw [List.length_append, List.length_append, List.map_cons, List.sum_cons, List.length_cons, Nat.add_mul]
    omega
theorem join_len {l : List Str} {n : Nat} (h : Lo l n) : (Txt.join " " l).length ≤ 11 * n := by
  rw [tlen, join_eq, tl_join]
  have h1 := joinL_len (tl " ") (l.map tl)
  have e1 : (tl ((" " : String) : Str)).length = 1 := by decide +kernel
  have e2 : ((l.map tl).map List.length).sum = (l.map (·.length)).sum := by
    rw [List.map_map]
    congr 1
  have h2 := lo_sum h.2
  have h3 := h.1
  rw [e1, e2, List.length_map] at h1
  omega
theorem split_net {ps : List Pt} {os : List Str} (h : ∀ p ∈ ps, OkP p) (g : ∀ z ∈ os, IsNm z) : Txt.split (Txt.join " " (netW ps os)) " " = partsW ps ++ (">" : Str) :: os := by
  rw [netW_eq]
  refine split_join (s := 32) (S := []) (by decide +kernel) (by decide +kernel) ?_ ((parts_sp h).app (.cons (by decide +kernel) (names_sp g)))
  intro e
  have e2 := congrArg List.length e
  rw [List.length_append, List.length_cons, List.length_nil] at e2
  omega
theorem Same.wd {x : Addr} {H H1 H2 : Hp} (s : Same H H1) (hx : H x = none) (k : Kp x H1 H2) : Same H H2 := fun a o e => k a o (s a o e) (ne_of_none e hx)
/-! ### the law's helpers -/
def spMixed (K : PySem.W.Frag) : Sp := fun vs H Q _ => ∃ (b c a : Addr) (xs : List V), vs = [.ref b, .ref a] ∧ Bag H b c ∧ a ≠ b ∧ SqL K H a xs ∧ xs.length ≤ 1000 ∧
  ∀ (l : Addr) (ys : List V) (H' : Hp), ys.Perm xs → Bag H' b c → Kp b H H' → H l = none → l ≠ b → H' l = some (.lst ys) → Q (.ref l) H'
theorem ins_perm {xs ys : List V} {y : V} {i : Nat} (k : Nat) (h : ys.Perm (xs.take i)) (hy : xs[i]? = some y) : (ys.take k ++ [y] ++ ys.drop k).Perm (xs.take (i + 1)) := by
  rw [List.take_add_one, hy]
  have h1 : (ys.take k ++ [y] ++ ys.drop k).Perm (y :: ys) := by
    rw [List.append_assoc]
    have h2 : (ys.take k ++ ([y] ++ ys.drop k)).Perm (y :: (ys.take k ++ ys.drop k)) := List.perm_middle
    rw [List.take_append_drop] at h2
    exact h2
  refine h1.trans ((List.Perm.cons y h).trans ?_)
  show (y :: List.take i xs).Perm (List.take i xs ++ [y])
  exact (List.perm_append_singleton y (List.take i xs)).symm
/-- a list of names at a -/
structure NmL (H : Hp) (b a : Addr) (ws : List Str) : Prop where
  ne : a ≠ b
  at_ : H a = some (.lst (ws.map V.str))
  nm : ∀ z ∈ ws, IsNm z
  l : ws.length ≤ 1000
theorem NmL.kp {H H' : Hp} {b a : Addr} {ws : List Str} (h : NmL H b a ws) (k : Kp b H H') : NmL H' b a ws := ⟨h.ne, k _ _ h.at_ h.ne, h.nm, h.l⟩
theorem NmL.menu {H : Hp} {b a : Addr} {ws : List Str} (h : NmL H b a ws) : Menu K H b (.ref a) (ws.map V.str) := .inl ⟨a, rfl, h.ne, SqL.of h.at_⟩
theorem IsNm.ok {z : Str} (h : IsNm z) : PyData.strOk z = true := by
  have all : ∀ c ∈ letters.cps.toList, c < 0x110000 := by decide +kernel
  unfold PyData.strOk
  rw [← Array.all_toList, List.all_eq_true]
  intro c hc
  exact decide_eq_true (all c (h.low c hc))
theorem dpAll_strs {H : Hp} : ∀ ws : List Str, DpAll K H (ws.map V.str) (ws.map PyData.str)
  | [] => .nil
  | x :: r => .cons (.str x) (dpAll_strs r)
theorem shaped_strs {ws : List Str} (h : ∀ z ∈ ws, IsNm z) : SeqAt.shaped (.list (ws.map PyData.str)) = true := by
  have lay : ∀ ws : List Str, (∀ z ∈ ws, IsNm z) → PyData.canLayAll0 (ws.map PyData.str) = true ∧ PyData.depthAll (ws.map PyData.str) = 0 := by
    intro ws
    induction ws with
    | nil => intro _; exact ⟨rfl, rfl⟩
    | cons x r ih =>
      intro h
      obtain ⟨h1, h2⟩ := ih fun z hz => h z (List.mem_cons_of_mem _ hz)
      refine ⟨?_, ?_⟩
      · show (PyData.strOk x && PyData.canLayAll0 (r.map PyData.str)) = true
        rw [(h x (List.mem_cons_self ..)).ok, h1]
        rfl
      · show max 0 (PyData.depthAll (r.map PyData.str)) = 0
        rw [h2]
        rfl
  obtain ⟨h1, h2⟩ := lay ws h
  show (PyData.canLayAll0 (ws.map PyData.str) && decide (PyData.depthAll (ws.map PyData.str) + 1 ≤ 64)) = true
  rw [h1, h2]
  rfl
theorem any_nm {H : Hp} {b c u : Addr} {us : List Str} {Q : VK} (B : Bag H b c) (hu : NmL H b u us) (h0 : 0 < us.length) (q : ∀ (a : Str) (H' : Hp), IsNm a → Bag H' b c → Kp b H H' → Q (.str a) H') : spAny K [.ref b, .ref u] H Q E0 :=
  ⟨b, c, .ref u, us.map V.str, rfl, B, hu.menu, by rw [List.length_map]; exact h0, by rw [List.length_map]; have := hu.l; omega, fun y H4 hy B4 k4 => by
    obtain ⟨a, ha, rfl⟩ := List.mem_map.mp hy
    exact q a H4 (hu.nm a ha) B4 k4⟩
def spTerm : Sp := fun vs H Q _ => ∃ (b c e v : Addr) (es ws : List Str), vs = [.ref b, .ref e, .ref v] ∧ Bag H b c ∧ NmL H b e es ∧ NmL H b v ws ∧ 0 < ws.length ∧
  ∀ (x : V) (t : Tm) (H' : Hp), TmAt H' x t → SmT t → IsNm t.a → Bag H' b c → Kp b H H' → Q x H'
abbrev kinds4 : List Str := ["plain", "odd", "keep", "pair"]
def BxAt (H : Hp) (v : V) (p : Str × Str) : Prop := ∃ t, v = .ref t ∧ H t = some (.tup [.str p.1, .str p.2])
theorem BxAt.tups {H H' : Hp} (s : Tups H H') {v : V} {p : Str × Str} (h : BxAt H v p) : BxAt H' v p := by
  obtain ⟨t, e, h⟩ := h
  exact ⟨t, e, s _ _ h⟩
/-- a list of pairs of a kind and a name at a -/
structure BxL (H : Hp) (b a : Addr) (bs : List V) (fs : List (Str × Str)) : Prop where
  ne : a ≠ b
  at_ : H a = some (.lst bs)
  all : All2 (BxAt H) bs fs
  ok : ∀ p ∈ fs, p.1 ∈ kinds4 ∧ IsNm p.2
  l : fs.length ≤ 1000
theorem BxL.kp {H H' : Hp} {b c a : Addr} {bs : List V} {fs : List (Str × Str)} (h : BxL H b a bs fs) (B : Bag H b c) (k : Kp b H H') : BxL H' b a bs fs :=
  ⟨h.ne, k _ _ h.at_ h.ne, h.all.mono fun _ _ z => z.tups (k.tups B), h.ok, h.l⟩
def spBoxes : Sp := fun vs H Q _ => ∃ (b c a : Addr) (ws : List Str), vs = [.ref b, .ref a] ∧ Bag H b c ∧ NmL H b a ws ∧
  ∀ (x : Addr) (bs : List V) (fs : List (Str × Str)) (H' : Hp), BxL H' b x bs fs → fs.length = ws.length → Bag H' b c → Kp b H H' → H x = none → Q (.ref x) H'
theorem All2.tail {α β : Type} {R : α → β → Prop} {x : α} {y : β} {xs : List α} {ys : List β} (h : All2 R (x :: xs) (y :: ys)) : R x y ∧ All2 R xs ys :=
  ⟨h.2 0 x y rfl rfl, Nat.succ.inj h.1, fun i u v hu hv => h.2 (i + 1) u v hu hv⟩
abbrev bxD (p : Str × Str) : PyData := .tuple [.str p.1, .str p.2]
theorem dpAll_bx {H : Hp} : ∀ {bs : List V} {fs : List (Str × Str)}, All2 (BxAt H) bs fs → DpAll K H bs (fs.map bxD)
  | [], [], _ => .nil
  | [], _ :: _, h => absurd h.1 (by simp)
  | _ :: _, [], h => absurd h.1 (by simp)
  | v :: bs, p :: fs, h => by
    obtain ⟨⟨t, rfl, ht⟩, h2⟩ := h.tail
    exact .cons (.tup (SqT.of ht) (.cons (.str _) (.cons (.str _) .nil))) (dpAll_bx h2)
theorem kinds_ok {k : Str} (h : k ∈ kinds4) : PyData.strOk k = true ∧ ¬ k = "mix" ∧ ¬ k = "use" ∧ k.length ≤ 10 := by
  have all : ∀ k ∈ kinds4, PyData.strOk k = true ∧ ¬ k = "mix" ∧ ¬ k = "use" ∧ k.length ≤ 10 := by decide +kernel
  exact all k h
theorem shaped_bx {fs : List (Str × Str)} (h : ∀ p ∈ fs, p.1 ∈ kinds4 ∧ IsNm p.2) : SeqAt.shaped (.list (fs.map bxD)) = true := by
  have lay : ∀ fs : List (Str × Str), (∀ p ∈ fs, p.1 ∈ kinds4 ∧ IsNm p.2) → PyData.canLayAll0 (fs.map bxD) = true ∧ PyData.depthAll (fs.map bxD) ≤ 1 := by
    intro fs
    induction fs with
    | nil => intro _; exact ⟨rfl, Nat.zero_le _⟩
    | cons x r ih =>
      intro h
      obtain ⟨h1, h2⟩ := ih fun z hz => h z (List.mem_cons_of_mem _ hz)
      obtain ⟨g1, g2⟩ := h x (List.mem_cons_self ..)
      refine ⟨?_, ?_⟩
      · show ((PyData.strOk x.1 && (PyData.strOk x.2 && true)) && PyData.canLayAll0 (r.map bxD)) = true
        rw [(kinds_ok g1).1, g2.ok, h1]
        rfl
      · show max (max 0 (max 0 0) + 1) (PyData.depthAll (r.map bxD)) ≤ 1
        omega
  obtain ⟨h1, h2⟩ := lay fs h
  show (PyData.canLayAll0 (fs.map bxD) && decide (PyData.depthAll (fs.map bxD) + 1 ≤ 64)) = true
  rw [h1, decide_eq_true (by omega)]
  rfl
theorem flat_ok {kd f : Str} {ds : List Str} (g1 : kd ∈ kinds4) (g2 : IsNm f) (dn : ∀ z ∈ ds, IsNm z) (h : (kd = "pair" ∧ ds.length = 2) ∨ (¬ kd = "pair" ∧ ds.length = 1)) :
    (kd = "source" ∧ f :: ds = []) ∨ ((kd = "plain" ∨ kd = "odd" ∨ kd = "keep") ∧ ∃ x e, f :: ds = [x, e] ∧ IsNm x ∧ IsNm e) ∨ (kd = "pair" ∧ ∃ x e g, f :: ds = [x, e, g] ∧ IsNm x ∧ IsNm e ∧ IsNm g) := by
  rcases h with ⟨e, l⟩ | ⟨e, l⟩
  · match ds, l with
    | [a, b], _ => exact .inr (.inr ⟨e, f, a, b, rfl, g2, dn a (by simp), dn b (by simp)⟩)
  · match ds, l with
    | [a], _ =>
      refine .inr (.inl ⟨?_, f, a, rfl, g2, dn a (by simp)⟩)
      rcases List.mem_cons.mp g1 with h | g1
      · exact .inl h
      rcases List.mem_cons.mp g1 with h | g1
      · exact .inr (.inl h)
      rcases List.mem_cons.mp g1 with h | g1
      · exact .inr (.inr h)
      · exact absurd (List.mem_singleton.mp g1) e
def Pw : Pt → Str
  | .flat _ w _ => w
  | .mix w _ => w
  | .use w _ _ => w
abbrev partN : List Str := ["_law_bag_here", "_law_wire", "_law_earlier", "_law_every", "_law_boxes_here", "_law_kind", "_law_name", "_law_ends", "_law_k"]
abbrev partP : List Str := ["_law_bag_here", "_law_wire", "_law_earlier", "_law_every", "_law_boxes_here"]
def PairL (kd : Str) (n : Nat) : Prop := n ≤ 2 ∧ ((kd = "pair" ∧ n = 2) ∨ (¬ kd = "pair" ∧ n = 1))
def spPart : Sp := fun vs H Q _ => ∃ (b c e v x : Addr) (wire : Str) (es ws : List Str) (bs : List V) (fs : List (Str × Str)), vs = [.ref b, .str wire, .ref e, .ref v, .ref x] ∧ Bag H b c ∧ IsNm wire ∧ NmL H b e es ∧ NmL H b v ws ∧ 0 < ws.length ∧ BxL H b x bs fs ∧
  ∀ (y : V) (p : Pt) (H' : Hp), PtAt H' y p → SmP p → OkP p → Pw p = wire → Bag H' b c → Kp b H H' → Q y H'
theorem cut_to {ws : List Str} {k : Int} (h : 0 ≤ k) : cutV (ws.map V.str) none (some k) = (ws.take k.toNat).map V.str := by
  obtain ⟨n, rfl⟩ : ∃ n : Nat, k = (n : Int) := ⟨k.toNat, by omega⟩
  unfold cutV
  rw [HT.sIx_none, HT.sIx_nat, List.drop_zero, Nat.sub_zero, Int.toNat_natCast, List.length_map, List.map_take, List.take_eq_take_iff]
  rw [List.length_map]
  omega
theorem NmL.take {H : Hp} {b a : Addr} {ws : List Str} (h : NmL H b a ws) {m : Addr} (n : Nat) (ne : m ≠ b) (hm : H m = some (.lst ((ws.take n).map V.str))) : NmL H b m (ws.take n) :=
  ⟨ne, hm, fun z hz => h.nm z (List.mem_of_mem_take hz), by rw [List.length_take]; have := h.l; omega⟩
abbrev partsN : List Str := ["_law_bag_here", "_law_wires", "_law_sources", "_law_boxes_here", "_law_found", "_law_k", "_law_wire"]
abbrev partsP : List Str := ["_law_bag_here", "_law_wires", "_law_sources", "_law_boxes_here"]
def spParts : Sp := fun vs H Q _ => ∃ (b c a x : Addr) (k : Int) (ws : List Str) (bs : List V) (fs : List (Str × Str)), vs = [.ref b, .ref a, .int k, .ref x] ∧ Bag H b c ∧ NmL H b a ws ∧ 0 ≤ k ∧ k ≤ 100 ∧ BxL H b x bs fs ∧
  ∀ (l : Addr) (us : List V) (ps : List Pt) (H' : Hp), l ≠ b → H' l = some (.lst us) → All2 (PtAt H') us ps → (∀ p ∈ ps, (SmP p ∧ OkP p) ∧ IsNm (Pw p)) → ps.length = ws.length → Bag H' b c → Kp b H H' → Q (.ref l) H'
end
end Un
namespace SerM
/-! ### polynomials as lists, the coefficient of z to the power 0 first -/
abbrev Po := List Int
def ev : Po → Int → Int
  | [], _ => 0
  | a :: r, x => a + x * ev r x
def co (p : Po) (i : Nat) : Int := p.getD i 0
def smul (c : Int) (p : Po) : Po := p.map (c * ·)
def add : Po → Po → Po
  | [], q => q
  | p, [] => p
  | a :: p, b :: q => (a + b) :: add p q
def mul : Po → Po → Po
  | [], _ => []
  | a :: r, q => add (smul a q) (0 :: mul r q)
theorem ev_smul (c : Int) : ∀ (p : Po) (x : Int), ev (smul c p) x = c * ev p x
  | [], x => by simp [smul, ev]
  | a :: r, x => by
    have ih := ev_smul c r x
    show c * a + x * ev (smul c r) x = c * (a + x * ev r x)
    rw [ih]; grind
theorem ev_add : ∀ (p q : Po) (x : Int), ev (add p q) x = ev p x + ev q x
  | [], q, x => by simp [add, ev]
  | a :: p, [], x => by simp [add, ev]
  | a :: p, b :: q, x => by
    have ih := ev_add p q x
    show (a + b) + x * ev (add p q) x = (a + x * ev p x) + (b + x * ev q x)
    rw [ih]; grind
theorem ev_mul : ∀ (p q : Po) (x : Int), ev (mul p q) x = ev p x * ev q x
  | [], q, x => by simp [mul, ev]
  | a :: r, q, x => by
    have ih := ev_mul r q x
    show ev (add (smul a q) (0 :: mul r q)) x = (a + x * ev r x) * ev q x
    rw [ev_add, ev_smul]
    show a * ev q x + (0 + x * ev (mul r q) x) = _
    rw [ih]; grind
theorem co_nil (i : Nat) : co [] i = 0 := by simp [co]
theorem co_zero (a : Int) (r : Po) : co (a :: r) 0 = a := rfl
theorem co_succ (a : Int) (r : Po) (i : Nat) : co (a :: r) (i + 1) = co r i := rfl
theorem co_add : ∀ (p q : Po) (i : Nat), co (add p q) i = co p i + co q i
  | [], q, i => by rw [co_nil]; show co q i = _; omega
  | a :: p, [], i => by rw [co_nil]; show co (a :: p) i = _; omega
  | a :: p, b :: q, 0 => rfl
  | a :: p, b :: q, i + 1 => co_add p q i
theorem co_smul (c : Int) : ∀ (p : Po) (i : Nat), co (smul c p) i = c * co p i
  | [], i => by rw [co_nil]; show co [] i = _; rw [co_nil]; simp
  | a :: p, 0 => rfl
  | a :: p, i + 1 => co_smul c p i
/-- not the zero polynomial -/
def NZ (p : Po) : Prop := ∃ i, co p i ≠ 0
theorem zero_ev : ∀ {p : Po}, (∀ i, co p i = 0) → ∀ x, ev p x = 0
  | [], _, _ => rfl
  | a :: r, h, x => by
    have h0 : a = 0 := h 0
    have ih := zero_ev (p := r) (fun i => h (i + 1)) x
    show a + x * ev r x = 0
    rw [h0, ih]; simp
/-- beyond some point it is not zero -/
theorem nz_big : ∀ {p : Po}, NZ p → ∃ N : Int, 0 < N ∧ ∀ x, N ≤ x → ev p x ≠ 0
  | [], ⟨i, h⟩ => absurd (co_nil i) h
  | a :: r, ⟨i, h⟩ => by
    by_cases hr : NZ r
    · obtain ⟨N, hN, hb⟩ := nz_big hr
      refine ⟨N + a.natAbs + 1, by omega, fun x hx e => ?_⟩
      have e : a + x * ev r x = 0 := e
      have hx0 : 0 < x := by omega
      have dv : x ∣ a := ⟨-(ev r x), by grind⟩
      have a0 : a = 0 := Int.eq_zero_of_dvd_of_natAbs_lt_natAbs dv (by omega)
      have : x * ev r x = 0 := by omega
      rcases Int.mul_eq_zero.mp this with h1 | h1
      · omega
      · exact hb x (by omega) h1
    · have z : ∀ i, co r i = 0 := fun j => Classical.byContradiction fun k => hr ⟨j, k⟩
      have a0 : a ≠ 0 := by
        cases i with
        | zero => exact h
        | succ i => exact absurd (z i) h
      refine ⟨1, by decide, fun x _ e => a0 ?_⟩
      have e : a + x * ev r x = 0 := e
      rw [zero_ev z x] at e
      simpa using e
theorem zero_of_ev {p : Po} (N : Int) (h : ∀ x, N ≤ x → ev p x = 0) (i : Nat) : co p i = 0 :=
  Classical.byContradiction fun k => by
    obtain ⟨M, _, hb⟩ := nz_big (p := p) ⟨i, k⟩
    exact hb (max N M) (Int.le_max_right _ _) (h _ (Int.le_max_left _ _))
/-- the same values, the same coefficients -/
theorem co_of_ev {p q : Po} (N : Int) (h : ∀ x, N ≤ x → ev p x = ev q x) (i : Nat) : co p i = co q i := by
  have := zero_of_ev (p := add p (smul (-1) q)) N (fun x hx => by rw [ev_add, ev_smul, h x hx]; omega) i
  rw [co_add, co_smul] at this
  omega
theorem ev_of_co {p q : Po} (h : ∀ i, co p i = co q i) (x : Int) : ev p x = ev q x := by
  have := zero_ev (p := add p (smul (-1) q)) (fun i => by rw [co_add, co_smul, h i]; omega) x
  rw [ev_add, ev_smul] at this
  omega
theorem nz_mul {p q : Po} (hp : NZ p) (hq : NZ q) : NZ (mul p q) := by
  obtain ⟨N, n0, hN⟩ := nz_big hp
  obtain ⟨M, m0, hM⟩ := nz_big hq
  refine Classical.byContradiction fun k => ?_
  have z : ∀ i, co (mul p q) i = 0 := fun i => Classical.byContradiction fun h => k ⟨i, h⟩
  have := zero_ev z (max N M)
  rw [ev_mul] at this
  rcases Int.mul_eq_zero.mp this with h | h
  · exact hN _ (Int.le_max_left _ _) h
  · exact hM _ (Int.le_max_right _ _) h
/-- degree n with the coefficient c ahead -/
structure Lead (p : Po) (n : Nat) (c : Int) : Prop where
  at_ : co p n = c
  ne : c ≠ 0
  hi : ∀ i, n < i → co p i = 0
theorem Lead.nz {p : Po} {n : Nat} {c : Int} (h : Lead p n c) : NZ p := ⟨n, by rw [h.at_]; exact h.ne⟩
theorem co_len {p : Po} {i : Nat} (h : p.length ≤ i) : co p i = 0 := by
  unfold co
  rw [List.getD_eq_getElem?_getD, List.getElem?_eq_none h]; rfl
theorem lead_of {p : Po} (h : NZ p) : ∃ n c, Lead p n c ∧ n < p.length := by
  have key : ∀ m, (∀ i, m ≤ i → co p i = 0) → ∃ n c, Lead p n c ∧ n < m := fun m => by
    induction m with
    | zero => intro z; obtain ⟨i, hi⟩ := h; exact absurd (z i (Nat.zero_le _)) hi
    | succ m ih =>
      intro z
      by_cases k : co p m = 0
      · obtain ⟨n, c, l, lt⟩ := ih fun i hi => by
          rcases Nat.lt_or_ge m i with lt | ge
          · exact z i lt
          · rw [show i = m by omega]; exact k
        exact ⟨n, c, l, by omega⟩
      · exact ⟨m, _, ⟨rfl, k, fun i hi => z i hi⟩, Nat.lt_succ_self m⟩
  exact key p.length fun i hi => co_len hi
theorem lead_uniq {p : Po} {n m : Nat} {c d : Int} (h : Lead p n c) (k : Lead p m d) : n = m ∧ c = d := by
  have e : n = m := by
    rcases Nat.lt_trichotomy n m with lt | e | gt
    · exact absurd (k.at_.symm.trans (h.hi m lt)) k.ne
    · exact e
    · exact absurd (h.at_.symm.trans (k.hi n gt)) h.ne
  subst e
  exact ⟨rfl, h.at_.symm.trans k.at_⟩
theorem lead_mul : ∀ {p q : Po} {n m : Nat} {c d : Int}, Lead p n c → Lead q m d → Lead (mul p q) (n + m) (c * d)
  | [], q, n, m, c, d, h, k => absurd (h.at_.symm.trans (co_nil n)) h.ne
  | a :: r, q, n, m, c, d, h, k => by
    have cm : ∀ i, co (mul (a :: r) q) i = a * co q i + co (0 :: mul r q) i := fun i => by
      show co (add (smul a q) (0 :: mul r q)) i = _
      rw [co_add, co_smul]
    have ne : c * d ≠ 0 := fun e => (Int.mul_eq_zero.mp e).elim h.ne k.ne
    cases n with
    | zero =>
      have ha : a = c := h.at_
      have z : ∀ i, co r i = 0 := fun i => h.hi (i + 1) (by omega)
      have z2 : ∀ i, co (mul r q) i = 0 := zero_of_ev 0 fun x _ => by rw [ev_mul, zero_ev z]; simp
      have z3 : ∀ i, co (0 :: mul r q) i = 0 := fun i => by
        cases i with
        | zero => rfl
        | succ i => exact z2 i
      refine ⟨?_, ne, fun i hi => ?_⟩
      · rw [cm, z3, ha, Nat.zero_add, k.at_]; omega
      · rw [cm, z3, k.hi i (by omega)]; simp
    | succ n =>
      have hr : Lead r n c := ⟨h.at_, h.ne, fun i hi => h.hi (i + 1) (by omega)⟩
      have ih := lead_mul hr k
      refine ⟨?_, ne, fun i hi => ?_⟩
      · rw [cm, k.hi _ (by omega), show n + 1 + m = n + m + 1 by omega, co_succ, ih.at_]; simp
      · obtain ⟨j, rfl⟩ : ∃ j, i = j + 1 := ⟨i - 1, by omega⟩
        rw [cm, k.hi _ (by omega), co_succ, ih.hi j (by omega)]; simp
theorem co0_ev (p : Po) : co p 0 = ev p 0 := by
  cases p with
  | nil => rfl
  | cons a r => show a = a + 0 * ev r 0; simp
/-- p divides q -/
def Dv (p q : Po) : Prop := ∃ r, ∀ x, ev q x = ev p x * ev r x
end SerM

namespace SerM
/-! ### sums -/
def S : Nat → (Nat → Int) → Int
  | 0, _ => 0
  | n + 1, g => S n g + g n
theorem S_congr : ∀ {n : Nat} {f g : Nat → Int}, (∀ j, j < n → f j = g j) → S n f = S n g
  | 0, _, _, _ => rfl
  | n + 1, f, g, h => by
    show S n f + f n = S n g + g n
    rw [S_congr (n := n) fun j hj => h j (by omega), h n (by omega)]
theorem S_zero : ∀ {n : Nat} {f : Nat → Int}, (∀ j, j < n → f j = 0) → S n f = 0
  | 0, _, _ => rfl
  | n + 1, f, h => by
    show S n f + f n = 0
    rw [S_zero (n := n) fun j hj => h j (by omega), h n (by omega)]; rfl
theorem S_shift : ∀ (n : Nat) (g : Nat → Int), S (n + 1) g = g 0 + S n fun j => g (j + 1)
  | 0, g => by show 0 + g 0 = g 0 + 0; omega
  | n + 1, g => by
    show S (n + 1) g + g (n + 1) = g 0 + (S n (fun j => g (j + 1)) + g (n + 1))
    rw [S_shift n g]; omega
theorem S_add : ∀ (n : Nat) (f g : Nat → Int), S n (fun j => f j + g j) = S n f + S n g
  | 0, _, _ => rfl
  | n + 1, f, g => by
    show S n (fun j => f j + g j) + (f n + g n) = (S n f + f n) + (S n g + g n)
    rw [S_add n f g]; omega
theorem S_mul (c : Int) : ∀ (n : Nat) (f : Nat → Int), S n (fun j => c * f j) = c * S n f
  | 0, _ => by simp [S]
  | n + 1, f => by
    show S n (fun j => c * f j) + c * f n = c * (S n f + f n)
    rw [S_mul c n f]; grind
theorem S_more {n : Nat} {g : Nat → Int} : ∀ (k : Nat), (∀ j, n ≤ j → g j = 0) → S (n + k) g = S n g
  | 0, _ => rfl
  | k + 1, h => by
    show S (n + k) g + g (n + k) = S n g
    rw [S_more k h, h (n + k) (by omega)]; omega
theorem ev_S : ∀ {n : Nat} {p : Po} (x : Int), (∀ i, n ≤ i → co p i = 0) → ev p x = S n fun j => co p j * x ^ j
  | 0, p, x, h => zero_ev (fun i => h i (Nat.zero_le _)) x
  | n + 1, [], x, h => by
    rw [S_zero fun j _ => by rw [co_nil]; simp]; rfl
  | n + 1, a :: r, x, h => by
    have ih := ev_S (n := n) (p := r) x fun i hi => h (i + 1) (by omega)
    rw [S_shift]
    show a + x * ev r x = a * x ^ 0 + S n fun j => co r j * x ^ (j + 1)
    rw [ih, ← S_mul]
    have : S n (fun j => x * (co r j * x ^ j)) = S n fun j => co r j * x ^ (j + 1) := S_congr fun j _ => by rw [Int.pow_succ]; grind
    rw [this]; simp
/-! ### rows that a polynomial annihilates -/
def Ph (p : Po) (n : Nat) (t : Nat → Int) (i : Nat) : Int := S (n + 1) fun j => co p j * t (i + n - j)
def InS (h : Po) (m : Nat) (t : Nat → Int) : Prop := ∀ i, Ph h m t i = 0
theorem ph_add (p q : Po) (n : Nat) (t : Nat → Int) (i : Nat) : Ph (add p q) n t i = Ph p n t i + Ph q n t i := by
  unfold Ph
  rw [← S_add]
  exact S_congr fun j _ => by rw [co_add]; grind
theorem ph_smul (c : Int) (p : Po) (n : Nat) (t : Nat → Int) (i : Nat) : Ph (smul c p) n t i = c * Ph p n t i := by
  unfold Ph
  rw [← S_mul]
  exact S_congr fun j _ => by rw [co_smul]; grind
theorem ph_shift (p : Po) (n : Nat) (t : Nat → Int) (i : Nat) : Ph (0 :: p) (n + 1) t i = Ph p n t i := by
  unfold Ph
  rw [S_shift]
  show 0 * _ + _ = _
  rw [Int.zero_mul, Int.zero_add]
  exact S_congr fun j hj => by rw [co_succ, show i + (n + 1) - (j + 1) = i + n - j by omega]
theorem ph_zero {p : Po} (h : ∀ i, co p i = 0) (n : Nat) (t : Nat → Int) (i : Nat) : Ph p n t i = 0 := S_zero fun j _ => by rw [h]; simp
theorem ph_more {p : Po} {m : Nat} (h : ∀ i, m < i → co p i = 0) (d : Nat) (t : Nat → Int) (i : Nat) : Ph p (d + m) t i = Ph p m t (i + d) := by
  unfold Ph
  rw [show d + m + 1 = m + 1 + d by omega, S_more d fun j hj => by rw [h j (by omega)]; simp]
  exact S_congr fun j hj => by rw [show i + (d + m) - j = i + d + m - j by omega]
theorem ph_mul {h : Po} {m : Nat} {t : Nat → Int} (hh : ∀ i, m < i → co h i = 0) (ht : InS h m t) : ∀ (k : Po) (d : Nat), k.length ≤ d + 1 → ∀ i, Ph (mul k h) (d + m) t i = 0
  | [], d, _, i => ph_zero co_nil _ _ _
  | a :: r, d, hl, i => by
    show Ph (add (smul a h) (0 :: mul r h)) (d + m) t i = 0
    rw [ph_add, ph_smul, ph_more hh, ht]
    cases d with
    | zero =>
      have : r = [] := by
        have : r.length = 0 := by simpa using hl
        exact List.length_eq_zero_iff.mp this
      subst this
      rw [ph_zero (p := 0 :: mul [] h) fun i => by
        cases i with
        | zero => rfl
        | succ i => exact co_nil i]
      simp
    | succ d =>
      rw [show d + 1 + m = d + m + 1 by omega, ph_shift, ph_mul hh ht r d (by simpa using hl) i]
      simp
theorem ins_step {h : Po} {m : Nat} {u v : Nat → Int} (c : Int) (hu : InS h m u) (hv : InS h m v) : InS h m fun i => u i + c * v (i + 1) := fun i => by
  have h1 := hu i
  have h2 := hv (i + 1)
  unfold Ph at h1 h2 ⊢
  have e : S (m + 1) (fun j => co h j * (u (i + m - j) + c * v (i + m - j + 1))) = S (m + 1) (fun j => co h j * u (i + m - j)) + c * S (m + 1) fun j => co h j * v (i + 1 + m - j) := by
    rw [← S_mul, ← S_add]
    exact S_congr fun j hj => by rw [show i + 1 + m - j = i + m - j + 1 by omega]; grind
  rw [e, h1, h2]; simp
theorem ins_lin {h : Po} {m : Nat} {u v : Nat → Int} (c : Int) (hu : InS h m u) (hv : InS h m v) : InS h m fun i => u i + c * v i := fun i => by
  have h1 := hu i
  have h2 := hv i
  unfold Ph at h1 h2 ⊢
  have e : S (m + 1) (fun j => co h j * (u (i + m - j) + c * v (i + m - j))) = S (m + 1) (fun j => co h j * u (i + m - j)) + c * S (m + 1) fun j => co h j * v (i + m - j) := by
    rw [← S_mul, ← S_add]
    exact S_congr fun j hj => by grind
  rw [e, h1, h2]; simp
theorem ins_zero {h : Po} {m : Nat} : InS h m fun _ => 0 := fun i => S_zero fun j _ => by simp
/-! ### a row -/
def nxt (h : Po) (m : Nat) (w : Nat → Int) : Nat → Int := fun j => if j + 1 = m then -(S m fun l => co h (l + 1) * w (m - (l + 1))) else w (j + 1)
def st (h : Po) (m : Nat) : Nat → Nat → Int
  | 0 => fun j => if j + 1 = m then 1 else 0
  | i + 1 => nxt h m (st h m i)
def row (h : Po) (m : Nat) (i : Nat) : Int := st h m i 0
theorem st_row {h : Po} {m : Nat} : ∀ (j i : Nat), j < m → st h m i j = row h m (i + j)
  | 0, i, _ => rfl
  | j + 1, i, hj => by
    have := st_row (h := h) (m := m) j (i + 1) (by omega)
    rw [show i + (j + 1) = i + 1 + j by omega, ← this]
    show _ = nxt h m (st h m i) j
    unfold nxt
    rw [if_neg (show ¬ j + 1 = m by omega)]
theorem row_in {h : Po} {m : Nat} (m1 : 1 ≤ m) (h0 : co h 0 = 1) : InS h m (row h m) := fun i => by
  unfold Ph
  rw [S_shift]
  have e : row h m (i + m - 0) = -(S m fun l => co h (l + 1) * row h m (i + m - (l + 1))) := by
    have := st_row (h := h) (m := m) (m - 1) (i + 1) (by omega)
    rw [show i + m - 0 = i + 1 + (m - 1) by omega, ← this]
    show nxt h m (st h m i) (m - 1) = _
    unfold nxt
    rw [if_pos (show m - 1 + 1 = m by omega)]
    congr 1
    exact S_congr fun l hl => by rw [st_row (m - (l + 1)) i (by omega), show i + (m - (l + 1)) = i + m - (l + 1) by omega]
  rw [e, h0]
  omega
theorem row_ne {h : Po} {m : Nat} (m1 : 1 ≤ m) : row h m (m - 1) ≠ 0 := by
  have := st_row (h := h) (m := m) (m - 1) 0 (by omega)
  rw [Nat.zero_add] at this
  rw [← this]
  show (if m - 1 + 1 = m then (1 : Int) else 0) ≠ 0
  rw [if_pos (show m - 1 + 1 = m by omega)]; decide
/-! ### one step down -/
def R (X : Int) : Nat → (Nat → Int) → Nat → Int
  | 0, _ => fun _ => 0
  | d + 1, t => fun i => t i + X * R X d t (i + 1)
theorem R_tel (X : Int) : ∀ (d : Nat) (t : Nat → Int) (i : Nat), R X d t i - X * R X d t (i + 1) = t i - X ^ d * t (i + d)
  | 0, t, i => by show (0 : Int) - X * 0 = t i - X ^ 0 * t (i + 0); rw [Int.pow_zero]; simp
  | d + 1, t, i => by
    have ih := R_tel X d t (i + 1)
    show (t i + X * R X d t (i + 1)) - X * (t (i + 1) + X * R X d t (i + 2)) = t i - X ^ (d + 1) * t (i + (d + 1))
    have e : i + 1 + d = i + (d + 1) := by omega
    rw [e] at ih
    rw [Int.pow_succ]
    grind
theorem R_in {h : Po} {m : Nat} {X : Int} {t : Nat → Int} (ht : InS h m t) : ∀ d, InS h m (R X d t)
  | 0 => ins_zero
  | d + 1 => ins_step X ht (R_in ht d)
def Qs (h : Po) (m : Nat) (X : Int) (t : Nat → Int) (i : Nat) : Int := S m fun l => (co h l * X ^ l) * R X (m - l) t i
theorem Q_in {h : Po} {m : Nat} {X : Int} {t : Nat → Int} (ht : InS h m t) : InS h m (Qs h m X t) := by
  have : ∀ k, InS h m fun i => S k fun l => (co h l * X ^ l) * R X (m - l) t i := fun k => by
    induction k with
    | zero => exact ins_zero
    | succ k ih => exact ins_lin (co h k * X ^ k) ih (R_in ht (m - k))
  exact this m
theorem Q_one {h : Po} {m : Nat} {X : Int} {t : Nat → Int} (ht : InS h m t) (hz : ∀ i, m < i → co h i = 0) (h1 : ev h X = 1) (i : Nat) : Qs h m X t i - X * Qs h m X t (i + 1) = t i := by
  have e1 := ev_S (n := m + 1) (p := h) X fun i hi => hz i (by omega)
  rw [h1] at e1
  have e1 : S m (fun j => co h j * X ^ j) + co h m * X ^ m = 1 := e1.symm
  have e2 : S m (fun j => co h j * t (i + m - j)) + co h m * t (i + m - m) = 0 := ht i
  rw [show i + m - m = i by omega] at e2
  have e3 : Qs h m X t i - X * Qs h m X t (i + 1) = S m fun l => (co h l * X ^ l) * (t i - X ^ (m - l) * t (i + (m - l))) := by
    unfold Qs
    rw [← S_mul, show ∀ a b : Int, a - b = a + (-1) * b from fun a b => by omega, ← S_mul, ← S_add]
    exact S_congr fun l hl => by
      have := R_tel X (m - l) t i
      grind
  have e4 : (S m fun l => (co h l * X ^ l) * (t i - X ^ (m - l) * t (i + (m - l)))) = t i * S m (fun j => co h j * X ^ j) + (-(X ^ m)) * S m fun j => co h j * t (i + m - j) := by
    rw [← S_mul, ← S_mul, ← S_add]
    exact S_congr fun l hl => by
      have ep : X ^ m = X ^ l * X ^ (m - l) := by rw [← Int.pow_add]; congr 1; omega
      rw [ep, show i + (m - l) = i + m - l by omega]
      grind
  rw [e3, e4]
  have : S m (fun j => co h j * X ^ j) = 1 - co h m * X ^ m := by omega
  have e5 : S m (fun j => co h j * t (i + m - j)) = -(co h m * t i) := by omega
  rw [this, e5]
  grind
end SerM

namespace SerM
/-! ### a factor whose value at X is 1 -/
def Tr (h : Po) (m : Nat) (X : Int) : Nat → Nat → Int
  | 0 => row h m
  | N + 1 => Qs h m X (Tr h m X N)
theorem Tr_in {h : Po} {m : Nat} {X : Int} (m1 : 1 ≤ m) (h0 : co h 0 = 1) : ∀ N, InS h m (Tr h m X N)
  | 0 => row_in m1 h0
  | N + 1 => Q_in (Tr_in m1 h0 N)
def SN : Nat → (Nat → Nat) → Nat
  | 0, _ => 0
  | n + 1, g => SN n g + g n
theorem S_abs : ∀ (n : Nat) (f : Nat → Int) (g : Nat → Nat), (∀ j, j < n → (f j).natAbs ≤ g j) → (S n f).natAbs ≤ SN n g
  | 0, _, _, _ => Nat.le_refl _
  | n + 1, f, g, h => by
    show (S n f + f n).natAbs ≤ SN n g + g n
    have h1 := S_abs n f g fun j hj => h j (by omega)
    have h2 := h n (by omega)
    omega
theorem SN_mul (c : Nat) : ∀ (n : Nat) (f : Nat → Nat), SN n (fun j => f j * c) = SN n f * c
  | 0, _ => by simp [SN]
  | n + 1, f => by
    show SN n (fun j => f j * c) + f n * c = (SN n f + f n) * c
    rw [SN_mul c n f, Nat.add_mul]
/-- X is beyond all roots, by far -/
structure Dom (f : Po) (n : Nat) (X : Nat) : Prop where
  x0 : 0 < X
  ne : co f n ≠ 0
  hi : ∀ i, n < i → co f i = 0
  d : 2 * SN n (fun j => (co f j).natAbs * X ^ j * 2 ^ (n - j)) ≤ (co f n).natAbs * X ^ n
section
variable {h : Po} {m : Nat} {X : Nat}
theorem diff_bd {T : Nat → Nat → Int} (one : ∀ N i, T (N + 1) i - (X : Int) * T (N + 1) (i + 1) = T N i) : ∀ (j M i K : Nat), j ≤ M → (∀ M', M - j ≤ M' → M' ≤ M → (T M' i).natAbs ≤ K) → ((X : Int) ^ j * T M (i + j)).natAbs ≤ 2 ^ j * K
  | 0, M, i, K, _, hb => by
    have := hb M (by omega) (Nat.le_refl _)
    simpa using this
  | j + 1, M, i, K, hj, hb => by
    obtain ⟨N, rfl⟩ : ∃ N, M = N + 1 := ⟨M - 1, by omega⟩
    have h1 := diff_bd one j (N + 1) i K (by omega) fun M' a b => hb M' (by omega) b
    have h2 := diff_bd one j N i K (by omega) fun M' a b => hb M' (by omega) (by omega)
    have e := one N (i + j)
    have e2 : (X : Int) ^ (j + 1) * T (N + 1) (i + (j + 1)) = (X : Int) ^ j * T (N + 1) (i + j) - (X : Int) ^ j * T N (i + j) := by
      rw [← e, Int.pow_succ, show i + (j + 1) = i + j + 1 by omega]
      grind
    rw [e2, Nat.pow_succ]
    have e3 : 2 ^ j * 2 * K = 2 ^ j * K + 2 ^ j * K := by rw [Nat.mul_assoc, Nat.mul_comm 2 K, ← Nat.mul_assoc]; omega
    rw [e3]
    omega
theorem half_bd {T : Nat → Nat → Int} {f : Po} {n : Nat} (one : ∀ N i, T (N + 1) i - (X : Int) * T (N + 1) (i + 1) = T N i) (an : ∀ N i, Ph f n (T N) i = 0) (d : Dom f n X) {M i K : Nat} (hM : n ≤ M) (hb : ∀ M', M - n ≤ M' → M' ≤ M → (T M' i).natAbs ≤ K) : 2 * (T M i).natAbs ≤ K := by
  have e : S n (fun j => co f j * T M (i + n - j)) + co f n * T M (i + n - n) = 0 := an M i
  rw [show i + n - n = i by omega] at e
  have e2 : co f n * (X : Int) ^ n * T M i = -(S n fun j => (co f j * (X : Int) ^ j) * ((X : Int) ^ (n - j) * T M (i + (n - j)))) := by
    have e3 : (S n fun j => (co f j * (X : Int) ^ j) * ((X : Int) ^ (n - j) * T M (i + (n - j)))) = (X : Int) ^ n * S n fun j => co f j * T M (i + n - j) := by
      rw [← S_mul]
      exact S_congr fun j hj => by
        have ep : (X : Int) ^ n = (X : Int) ^ j * (X : Int) ^ (n - j) := by rw [← Int.pow_add]; congr 1; omega
        rw [ep, show i + (n - j) = i + n - j by omega]
        grind
    rw [e3]
    have : co f n * T M i = -(S n fun j => co f j * T M (i + n - j)) := by omega
    grind
  have b1 := S_abs n (fun j => (co f j * (X : Int) ^ j) * ((X : Int) ^ (n - j) * T M (i + (n - j)))) (fun j => (co f j).natAbs * X ^ j * 2 ^ (n - j) * K) fun j hj => by
    have h1 := diff_bd one (n - j) M i K (by omega) fun M' a b => hb M' (by omega) b
    rw [Int.natAbs_mul, Int.natAbs_mul, Int.natAbs_pow, Int.natAbs_natCast, Nat.mul_assoc ((co f j).natAbs * X ^ j)]
    exact Nat.mul_le_mul_left _ h1
  rw [SN_mul] at b1
  have b2 : (co f n).natAbs * X ^ n * (T M i).natAbs ≤ SN n (fun j => (co f j).natAbs * X ^ j * 2 ^ (n - j)) * K := by
    have := congrArg Int.natAbs e2
    rw [Int.natAbs_neg, Int.natAbs_mul, Int.natAbs_mul, Int.natAbs_pow, Int.natAbs_natCast] at this
    rw [this]
    exact b1
  have b3 := Nat.mul_le_mul_right K d.d
  have pos : 0 < (co f n).natAbs * X ^ n := Nat.mul_pos (Int.natAbs_pos.mpr d.ne) (Nat.pow_pos d.x0)
  generalize SN n (fun j => (co f j).natAbs * X ^ j * 2 ^ (n - j)) = s at b2 b3
  generalize (co f n).natAbs * X ^ n = q at b2 b3 pos
  have b4 : q * (2 * (T M i).natAbs) ≤ q * K := by
    have h1 : q * (2 * (T M i).natAbs) = 2 * (q * (T M i).natAbs) := by grind
    have h2 : 2 * s * K = 2 * (s * K) := by grind
    omega
  exact Nat.le_of_mul_le_mul_left b4 pos
/-- a row of whole numbers that halves comes to its end -/
theorem ends {V : Nat → Int} {n : Nat} (hv : ∀ M K : Nat, n ≤ M → (∀ M', M - n ≤ M' → M' ≤ M → (V M').natAbs ≤ K) → 2 * (V M).natAbs ≤ K) : ∃ M0, ∀ M, M0 ≤ M → V M = 0 := by
  have bound : ∃ K, ∀ M, M < n → (V M).natAbs ≤ K := by
    have : ∀ k, ∃ K, ∀ M, M < k → (V M).natAbs ≤ K := fun k => by
      induction k with
      | zero => exact ⟨0, fun M h => absurd h (Nat.not_lt_zero M)⟩
      | succ k ih =>
        obtain ⟨K, hK⟩ := ih
        refine ⟨K + (V k).natAbs, fun M hM => ?_⟩
        rcases Nat.lt_or_ge M k with lt | ge
        · have := hK M lt; omega
        · rw [show M = k by omega]; omega
    exact this n
  obtain ⟨K0, hK0⟩ := bound
  have all : ∀ M, ∀ M', M' ≤ M → (V M').natAbs ≤ K0 := fun M => by
    induction M with
    | zero =>
      intro M' hM'
      rw [show M' = 0 by omega]
      by_cases hn : 0 < n
      · exact hK0 0 hn
      · have := hv 0 (V 0).natAbs (by omega) fun M' a b => by rw [show M' = 0 by omega]; exact Nat.le_refl _
        omega
    | succ M ih =>
      intro M' hM'
      rcases Nat.lt_or_ge M' (M + 1) with lt | ge
      · exact ih M' (by omega)
      · rw [show M' = M + 1 by omega]
        rcases Nat.lt_or_ge (M + 1) n with l2 | g2
        · exact hK0 _ l2
        · have := hv (M + 1) (max K0 (V (M + 1)).natAbs) g2 fun M'' a b => by
            rcases Nat.lt_or_ge M'' (M + 1) with l3 | g3
            · have := ih M'' (by omega); omega
            · rw [show M'' = M + 1 by omega]; omega
          omega
  have down : ∀ K : Nat, (∃ M0, ∀ M, M0 ≤ M → (V M).natAbs ≤ K) → ∃ M0, ∀ M, M0 ≤ M → V M = 0 := fun K => by
    induction K using Nat.strongRecOn with
    | ind K ih =>
      rintro ⟨M0, h0⟩
      cases K with
      | zero => exact ⟨M0, fun M hM => by have := h0 M hM; omega⟩
      | succ K =>
        refine ih ((K + 1) / 2) (by omega) ⟨M0 + n, fun M hM => ?_⟩
        have := hv M (K + 1) (by omega) fun M' a b => h0 M' (by omega)
        omega
  exact down K0 ⟨0, fun M _ => all M M (Nat.le_refl _)⟩
theorem take_co {k : Po} {d : Nat} {c : Int} (l : Lead k d c) : ∃ k', k'.length ≤ d + 1 ∧ ∀ i, co k' i = co k i := by
  refine ⟨k.take (d + 1), List.length_take_le _ _, fun i => ?_⟩
  unfold co
  rw [List.getD_eq_getElem?_getD, List.getD_eq_getElem?_getD, List.getElem?_take]
  split
  · rfl
  · have := l.hi i (by omega)
    unfold co at this
    rw [List.getD_eq_getElem?_getD] at this
    rw [this]; rfl
/-- a factor with the first coefficient 1 and the value 1 beyond all roots is 1 -/
theorem no_factor {f k : Po} {n : Nat} {c : Int} (d : Dom f n X) (hf : ∀ x, ev f x = ev h x * ev k x) (h0 : co h 0 = 1) (l : Lead h m c) (hX : ev h X = 1) : m = 0 := by
  refine Classical.byContradiction fun m0 => ?_
  have m1 : 1 ≤ m := by omega
  have lf : Lead f n (co f n) := ⟨rfl, d.ne, d.hi⟩
  have fz : NZ f := lf.nz
  have kz : NZ k := Classical.byContradiction fun z => by
    have z' : ∀ i, co k i = 0 := fun i => Classical.byContradiction fun q => z ⟨i, q⟩
    obtain ⟨N, _, hN⟩ := nz_big fz
    exact hN N (Int.le_refl _) (by rw [hf, zero_ev z']; simp)
  obtain ⟨dk, ck, lk, _⟩ := lead_of kz
  obtain ⟨k', kl, ke⟩ := take_co lk
  have lk' : Lead k' dk ck := ⟨(ke _).trans lk.at_, lk.ne, fun i hi => (ke i).trans (lk.hi i hi)⟩
  have cof : ∀ i, co f i = co (mul k' h) i := co_of_ev 0 fun x _ => by rw [hf, ev_mul, ev_of_co ke]; grind
  have en : n = dk + m := (lead_uniq lf ⟨(cof _).trans (lead_mul lk' l).at_, (lead_mul lk' l).ne, fun i hi => (cof i).trans ((lead_mul lk' l).hi i hi)⟩).1
  have one : ∀ N i, Tr h m X (N + 1) i - (X : Int) * Tr h m X (N + 1) (i + 1) = Tr h m X N i := fun N i => Q_one (Tr_in m1 h0 N) l.hi hX i
  have an : ∀ N i, Ph f n (Tr h m X N) i = 0 := fun N i => by
    have := ph_mul l.hi (Tr_in (X := X) m1 h0 N) k' dk kl i
    rw [← en] at this
    rw [← this]
    exact S_congr fun j _ => by rw [cof]
  have each : ∀ i, ∃ M0, ∀ M, M0 ≤ M → Tr h m X M i = 0 := fun i => ends (V := fun M => Tr h m X M i) fun M K hM hb => half_bd one an d hM hb
  obtain ⟨M0, hM0⟩ : ∃ M0, ∀ i, i < m → Tr h m X M0 i = 0 := by
    have : ∀ k, ∃ M0, ∀ i, i < k → ∀ M, M0 ≤ M → Tr h m X M i = 0 := fun k => by
      induction k with
      | zero => exact ⟨0, fun i hi => absurd hi (Nat.not_lt_zero i)⟩
      | succ k ih =>
        obtain ⟨A, hA⟩ := ih
        obtain ⟨B, hB⟩ := each k
        refine ⟨A + B, fun i hi M hM => ?_⟩
        rcases Nat.lt_or_ge i k with lt | ge
        · exact hA i lt M (by omega)
        · rw [show i = k by omega]; exact hB M (by omega)
    obtain ⟨M0, h⟩ := this m
    exact ⟨M0, fun i hi => h i hi M0 (Nat.le_refl _)⟩
  -- a row that begins with zeros is zero
  have zero : ∀ {t : Nat → Int}, InS h m t → (∀ i, i < m → t i = 0) → ∀ i, t i = 0 := fun {t} ht hz i => by
    induction i using Nat.strongRecOn with
    | ind i ih =>
      rcases Nat.lt_or_ge i m with lt | ge
      · exact hz i lt
      · have e := ht (i - m)
        unfold Ph at e
        rw [S_shift, h0, show i - m + m - 0 = i by omega] at e
        rw [S_zero fun j hj => by rw [ih (i - m + m - (j + 1)) (by omega)]; simp] at e
        omega
  have down : ∀ N, (∀ i, Tr h m X N i = 0) → ∀ i, row h m i = 0 := fun N => by
    induction N with
    | zero => exact fun h => h
    | succ N ih => exact fun h2 => ih fun i => by rw [← one N i, h2, h2]; simp
  exact row_ne m1 (down M0 (zero (Tr_in m1 h0 M0) hM0) (m - 1))
end
end SerM

namespace SerM
/-! ### division -/
def zp : Nat → Po → Po
  | 0, q => q
  | k + 1, q => 0 :: zp k q
theorem ev_zp : ∀ (k : Nat) (q : Po) (x : Int), ev (zp k q) x = x ^ k * ev q x
  | 0, q, x => by show ev q x = x ^ 0 * _; rw [Int.pow_zero]; omega
  | k + 1, q, x => by
    show 0 + x * ev (zp k q) x = _
    rw [ev_zp k q x, Int.pow_succ]; grind
theorem co_zp : ∀ (k : Nat) (q : Po) (i : Nat), co (zp k q) (k + i) = co q i
  | 0, q, i => by rw [Nat.zero_add]; rfl
  | k + 1, q, i => by rw [show k + 1 + i = k + i + 1 by omega]; exact co_zp k q i
theorem pdiv {q : Po} {m : Nat} {d : Int} (l : Lead q m d) : ∀ (n : Nat) (p : Po), (∀ i, n ≤ i → co p i = 0) → ∃ (c : Int) (s r : Po), c ≠ 0 ∧ (∀ x, c * ev p x = ev s x * ev q x + ev r x) ∧ ∀ i, m ≤ i → co r i = 0
  | 0, p, h => ⟨1, [], p, by decide, fun x => by show 1 * ev p x = 0 * _ + _; omega, fun i _ => h i (Nat.zero_le _)⟩
  | n + 1, p, h => by
    rcases Nat.lt_or_ge n m with lt | ge
    · exact ⟨1, [], p, by decide, fun x => by show 1 * ev p x = 0 * _ + _; omega, fun i hi => h i (by omega)⟩
    · have cz : ∀ i, co (add (smul d p) (smul (-(co p n)) (zp (n - m) q))) i = d * co p i + -(co p n) * co (zp (n - m) q) i := fun i => by rw [co_add, co_smul, co_smul]
      obtain ⟨c, s, r, hc, he, hr⟩ := pdiv l n (add (smul d p) (smul (-(co p n)) (zp (n - m) q))) fun i hi => by
        rw [cz, show i = (n - m) + (m + (i - n)) by omega, co_zp]
        rcases Nat.eq_or_lt_of_le hi with e | lt
        · subst e
          rw [show m + (n - n) = m by omega, l.at_, show n - m + m = n by omega]; grind
        · rw [l.hi (m + (i - n)) (by omega), show n - m + (m + (i - n)) = i by omega, h i (by omega)]; simp
      refine ⟨c * d, add s (smul (c * co p n) (zp (n - m) [1])), r, fun e => (Int.mul_eq_zero.mp e).elim hc l.ne, fun x => ?_, hr⟩
      have := he x
      rw [ev_add, ev_smul, ev_smul, ev_zp] at this
      rw [ev_add, ev_smul, ev_zp]
      have e1 : ev [1] x = 1 := by show 1 + x * 0 = (1 : Int); omega
      rw [e1]
      grind
theorem ext_gcd : ∀ (n : Nat) (p q : Po), (∀ i, n ≤ i → co q i = 0) → (NZ p ∨ NZ q) → ∃ (g s t u v : Po) (c e : Int), NZ g ∧ c ≠ 0 ∧ e ≠ 0 ∧ (∀ x, ev g x = ev s x * ev p x + ev t x * ev q x) ∧ (∀ x, c * ev p x = ev g x * ev u x) ∧ ∀ x, e * ev q x = ev g x * ev v x := fun n => by
  have one : ∀ x, ev [1] x = 1 := fun x => by show 1 + x * 0 = (1 : Int); omega
  have base : ∀ p q : Po, (∀ i, co q i = 0) → (NZ p ∨ NZ q) → ∃ (g s t u v : Po) (c e : Int), NZ g ∧ c ≠ 0 ∧ e ≠ 0 ∧ (∀ x, ev g x = ev s x * ev p x + ev t x * ev q x) ∧ (∀ x, c * ev p x = ev g x * ev u x) ∧ ∀ x, e * ev q x = ev g x * ev v x := fun p q hq hz => by
    have hp : NZ p := hz.elim id fun ⟨i, hi⟩ => absurd (hq i) hi
    exact ⟨p, [1], [], [1], [], 1, 1, hp, by decide, by decide, fun x => by rw [one]; show _ = 1 * _ + 0 * _; omega, fun x => by rw [one]; omega, fun x => by rw [zero_ev hq]; show _ = _ * 0; omega⟩
  induction n using Nat.strongRecOn with
  | ind n ih =>
    intro p q hq hz
    by_cases nq : NZ q
    · obtain ⟨m, d, l, _⟩ := lead_of nq
      have mn : m < n := Nat.lt_of_not_le fun h => l.ne (l.at_.symm.trans (hq m h))
      obtain ⟨c, w, r, hc, he, hr⟩ := pdiv l p.length p fun i hi => co_len hi
      obtain ⟨g, s, t, u, v, c1, e1, hg, hc1, he1, h1, h2, h3⟩ := ih m mn q r hr (.inl nq)
      refine ⟨g, smul c t, add s (smul (-1) (mul t w)), add (smul e1 (mul w u)) (smul c1 v), u, c * c1 * e1, c1, hg, fun z => ?_, hc1, fun x => ?_, fun x => ?_, h2⟩
      · rcases Int.mul_eq_zero.mp z with z | z
        · exact (Int.mul_eq_zero.mp z).elim hc hc1
        · exact he1 z
      · rw [h1, ev_smul, ev_add, ev_smul, ev_mul]
        have := he x
        grind
      · rw [ev_add, ev_smul, ev_smul, ev_mul]
        have a1 := he x
        have a2 := h2 x
        have a3 := h3 x
        have b1 : c * c1 * e1 * ev p x = c1 * e1 * (c * ev p x) := by grind
        rw [b1, a1]
        have b2 : c1 * e1 * (ev w x * ev q x + ev r x) = e1 * ev w x * (c1 * ev q x) + c1 * (e1 * ev r x) := by grind
        rw [b2, a2, a3]
        grind
    · exact base p q (fun i => Classical.byContradiction fun h => nq ⟨i, h⟩) hz
/-! ### whole factors -/
theorem co_mul : ∀ (p q : Po) (n : Nat), co (mul p q) n = S (n + 1) fun l => co p l * co q (n - l)
  | [], q, n => by
    rw [S_zero fun j _ => by rw [co_nil]; simp]
    exact co_nil n
  | a :: r, q, n => by
    show co (add (smul a q) (0 :: mul r q)) n = _
    rw [co_add, co_smul, S_shift]
    show a * co q n + co (0 :: mul r q) n = a * co q (n - 0) + S n fun j => co r j * co q (n - (j + 1))
    cases n with
    | zero => rfl
    | succ n =>
      rw [co_succ, co_mul r q n]
      have : S (n + 1) (fun l => co r l * co q (n - l)) = S (n + 1) fun j => co r j * co q (n + 1 - (j + 1)) := S_congr fun j _ => by rw [show n + 1 - (j + 1) = n - j by omega]
      rw [this]; rfl
theorem dvd_S {p : Int} : ∀ {n : Nat} {g : Nat → Int}, (∀ l, l < n → p ∣ g l) → p ∣ S n g
  | 0, _, _ => ⟨0, by simp [S]⟩
  | n + 1, g, h => Int.dvd_add (dvd_S fun l hl => h l (by omega)) (h n (by omega))
theorem dvd_one_left {p : Int} : ∀ {n : Nat} {g : Nat → Int} {i : Nat}, i < n → (∀ l, l < n → l ≠ i → p ∣ g l) → p ∣ S n g → p ∣ g i
  | 0, _, _, hi, _, _ => absurd hi (Nat.not_lt_zero _)
  | n + 1, g, i, hi, h, hs => by
    have hs : p ∣ S n g + g n := hs
    by_cases e : i = n
    · subst e
      have h1 : p ∣ S i g := dvd_S fun l hl => h l (by omega) (by omega)
      exact (Int.dvd_add_right h1).mp hs
    · have h1 : p ∣ g n := h n (by omega) fun z => e z.symm
      exact dvd_one_left (by omega) (fun l hl ne => h l (by omega) ne) ((Int.dvd_add_left h1).mp hs)
structure Prm (p : Nat) : Prop where
  two : 2 ≤ p
  dv : ∀ d, d ∣ p → d = 1 ∨ d = p
theorem prm_ex {n : Nat} (h : 2 ≤ n) : ∃ p, Prm p ∧ p ∣ n := by
  induction n using Nat.strongRecOn with
  | ind n ih =>
    by_cases k : ∃ d, d ∣ n ∧ d ≠ 1 ∧ d ≠ n
    · obtain ⟨d, hd, h1, h2⟩ := k
      have d0 : d ≠ 0 := fun e => by rw [e] at hd; have := Nat.eq_zero_of_zero_dvd hd; omega
      have dl := Nat.le_of_dvd (by omega) hd
      obtain ⟨p, hp, hd2⟩ := ih d (by omega) (by omega)
      exact ⟨p, hp, Nat.dvd_trans hd2 hd⟩
    · exact ⟨n, ⟨h, fun d hd => Classical.byContradiction fun z => k ⟨d, hd, fun e => z (.inl e), fun e => z (.inr e)⟩⟩, Nat.dvd_refl n⟩
theorem prm_mul {p : Nat} (hp : Prm p) {x y : Int} (h : (p : Int) ∣ x * y) : (p : Int) ∣ x ∨ (p : Int) ∣ y := by
  have h' : p ∣ x.natAbs * y.natAbs := by
    rw [← Int.natAbs_mul]
    exact Int.ofNat_dvd_left.mp h
  rcases hp.dv (Nat.gcd p x.natAbs) (Nat.gcd_dvd_left _ _) with g | g
  · exact .inr (Int.ofNat_dvd_left.mpr (Nat.Coprime.dvd_of_dvd_mul_left g h'))
  · exact .inl (Int.ofNat_dvd_left.mpr (g ▸ Nat.gcd_dvd_right p x.natAbs))
def DvC (p : Int) (F : Po) : Prop := ∀ i, p ∣ co F i
theorem least {P : Nat → Prop} (h : ∃ i, P i) : ∃ i, P i ∧ ∀ j, j < i → ¬ P j := by
  obtain ⟨i, hi⟩ := h
  induction i using Nat.strongRecOn with
  | ind i ih =>
    by_cases k : ∃ j, j < i ∧ P j
    · obtain ⟨j, lt, hj⟩ := k
      exact ih j lt hj
    · exact ⟨i, hi, fun j lt hj => k ⟨j, lt, hj⟩⟩
theorem gauss_p {p : Nat} (hp : Prm p) {F V : Po} (h : DvC p (mul F V)) : DvC p F ∨ DvC p V := by
  refine Classical.byContradiction fun z => ?_
  have z1 : ∃ i, ¬ (p : Int) ∣ co F i := Classical.byContradiction fun k => z (.inl fun i => Classical.byContradiction fun q => k ⟨i, q⟩)
  have z2 : ∃ i, ¬ (p : Int) ∣ co V i := Classical.byContradiction fun k => z (.inr fun i => Classical.byContradiction fun q => k ⟨i, q⟩)
  obtain ⟨i, hi, li⟩ := least z1
  obtain ⟨j, hj, lj⟩ := least z2
  have h1 := h (i + j)
  rw [co_mul] at h1
  have h2 := dvd_one_left (i := i) (by omega) (fun l hl ne => by
    rcases Nat.lt_or_ge l i with lt | ge
    · exact Int.dvd_trans (Classical.byContradiction fun k => li l lt k) (Int.dvd_mul_right _ _)
    · exact Int.dvd_trans (Classical.byContradiction fun k => lj (i + j - l) (by omega) k) (Int.dvd_mul_left _ _)) h1
  rw [show i + j - i = j by omega] at h2
  exact (prm_mul hp h2).elim hi hj
theorem div_co {c : Int} (hc : c ≠ 0) {w : Po} (h : DvC c w) : ∃ w' : Po, ∀ x, ev w x = c * ev w' x := by
  induction w with
  | nil => exact ⟨[], fun x => by show (0 : Int) = c * 0; omega⟩
  | cons a r ih =>
    obtain ⟨r', hr⟩ := ih fun i => h (i + 1)
    obtain ⟨b, hb⟩ := h 0
    refine ⟨b :: r', fun x => ?_⟩
    show a + x * ev r x = c * (b + x * ev r' x)
    have : a = c * b := hb
    rw [hr x, this]; grind
end SerM

namespace SerM
theorem dvc_ev {c : Int} {F w : Po} (h : ∀ x, ev F x = c * ev w x) : DvC c F := fun i => by
  have := co_of_ev (p := F) (q := smul c w) 0 (fun x _ => by rw [h, ev_smul]) i
  rw [co_smul] at this
  exact ⟨_, this⟩
theorem canc {c : Int} (hc : c ≠ 0) {x y : Int} (h : c * x = c * y) : x = y := Int.eq_of_mul_eq_mul_left hc h
/-- the first coefficient of a factor divides it, where the whole begins with 1 -/
theorem first_dvd : ∀ (n : Nat) (q F V : Po) (a b : Int), a.natAbs * b.natAbs ≤ n → a ≠ 0 → b ≠ 0 → ev F 0 = a → ev V 0 = b → (∀ x, a * b * ev q x = ev F x * ev V x) → DvC a F := fun n => by
  induction n using Nat.strongRecOn with
  | ind n ih =>
    intro q F V a b hn ha hb hF hV he
    have a1 : 1 ≤ a.natAbs := Int.natAbs_pos.mpr ha
    have b1 : 1 ≤ b.natAbs := Int.natAbs_pos.mpr hb
    by_cases one : a.natAbs = 1
    · intro i
      rcases Int.natAbs_eq a with e | e
      · rw [e, one]; exact Int.one_dvd _
      · rw [e, one]; exact Int.neg_dvd.mpr (Int.one_dvd _)
    obtain ⟨p, hp, hd⟩ := prm_ex (n := a.natAbs) (by omega)
    have p2 := hp.two
    have p0 : (p : Int) ≠ 0 := by omega
    obtain ⟨a', ea⟩ : (p : Int) ∣ a := Int.ofNat_dvd_left.mpr hd
    have ha' : a' ≠ 0 := fun z => ha (by rw [ea, z]; simp)
    have na : a.natAbs = p * a'.natAbs := by rw [ea, Int.natAbs_mul, Int.natAbs_natCast]
    have a'1 : 1 ≤ a'.natAbs := Int.natAbs_pos.mpr ha'
    have lt1 : a'.natAbs < a.natAbs := by
      rw [na]
      have : 2 * a'.natAbs ≤ p * a'.natAbs := Nat.mul_le_mul_right _ p2
      omega
    have dm : DvC p (mul F V) := fun i => by
      have := co_of_ev (p := mul F V) (q := smul (a * b) q) 0 (fun x _ => by rw [ev_mul, ev_smul, he]) i
      rw [this, co_smul, ea]
      exact ⟨a' * b * co q i, by grind⟩
    rcases gauss_p hp dm with d | d
    · obtain ⟨F', hF'⟩ := div_co p0 d
      have f0 : ev F' 0 = a' := canc p0 (by rw [← hF', hF, ea])
      have ih' := ih (a'.natAbs * b.natAbs) (by
        have : a'.natAbs * b.natAbs < a.natAbs * b.natAbs := Nat.mul_lt_mul_of_pos_right lt1 b1
        omega) q F' V a' b (Nat.le_refl _) ha' hb f0 hV fun x => canc p0 (by
          have := he x
          rw [hF' x, ea] at this
          grind)
      intro i
      obtain ⟨w, hw⟩ := ih' i
      have := co_of_ev (p := F) (q := smul p F') 0 (fun x _ => by rw [hF', ev_smul]) i
      rw [this, co_smul, hw, ea]
      exact ⟨w, by grind⟩
    · obtain ⟨V', hV'⟩ := div_co p0 d
      obtain ⟨b', eb⟩ : ∃ b', b = p * b' := ⟨ev V' 0, by rw [← hV, hV']⟩
      have v0 : ev V' 0 = b' := canc p0 (by rw [← hV', hV, eb])
      have hb' : b' ≠ 0 := fun z => hb (by rw [eb, z]; simp)
      have nb : b.natAbs = p * b'.natAbs := by rw [eb, Int.natAbs_mul, Int.natAbs_natCast]
      have b'1 : 1 ≤ b'.natAbs := Int.natAbs_pos.mpr hb'
      have lt2 : b'.natAbs < b.natAbs := by
        rw [nb]
        have : 2 * b'.natAbs ≤ p * b'.natAbs := Nat.mul_le_mul_right _ p2
        omega
      exact ih (a.natAbs * b'.natAbs) (by
        have : a.natAbs * b'.natAbs < a.natAbs * b.natAbs := Nat.mul_lt_mul_of_pos_left lt2 a1
        omega) q F V' a b' (Nat.le_refl _) ha hb' hF v0 fun x => canc p0 (by
          have := he x
          rw [hV' x, eb] at this
          grind)
/-- what divides c times p divides p, if it begins with 1 -/
theorem dv_whole {c : Int} (hc : c ≠ 0) {p h w : Po} (h0 : ev h 0 = 1) (he : ∀ x, c * ev p x = ev h x * ev w x) : Dv h p := by
  have key : DvC c w := fun i => by
    induction i using Nat.strongRecOn with
    | ind i ih =>
      have e := co_of_ev (p := mul h w) (q := smul c p) 0 (fun x _ => by rw [ev_mul, ev_smul, he]) i
      rw [co_mul, co_smul, S_shift, co0_ev, h0, Nat.sub_zero] at e
      have d1 : c ∣ S i fun j => co h (j + 1) * co w (i - (j + 1)) := dvd_S fun j hj => Int.dvd_trans (ih (i - (j + 1)) (by omega)) (Int.dvd_mul_left _ _)
      obtain ⟨k, hk⟩ := d1
      exact ⟨co p i - k, by rw [hk] at e; grind⟩
  obtain ⟨w', hw⟩ := div_co hc key
  exact ⟨w', fun x => canc hc (by rw [he, hw]; grind)⟩
/-- a common factor up to numbers gives a whole one that begins with 1 -/
theorem norm_common {p q g u v : Po} {c e : Int} {m : Nat} {d : Int} (hc : c ≠ 0) (he : e ≠ 0) (h1 : ∀ x, c * ev p x = ev g x * ev u x) (h2 : ∀ x, e * ev q x = ev g x * ev v x) (q1 : ev q 0 = 1) (l : Lead g m d) : ∃ (h : Po) (d' : Int), ev h 0 = 1 ∧ Lead h m d' ∧ Dv h p ∧ Dv h q := by
  have e0 := h2 0
  rw [q1, Int.mul_one] at e0
  have g0 : ev g 0 ≠ 0 := fun z => he (by rw [e0, z]; simp)
  have v0 : ev v 0 ≠ 0 := fun z => he (by rw [e0, z]; simp)
  obtain ⟨h, hh⟩ := div_co g0 (first_dvd _ q g v (ev g 0) (ev v 0) (Nat.le_refl _) g0 v0 rfl rfl fun x => by rw [← e0]; exact h2 x)
  have h0 : ev h 0 = 1 := canc g0 (by rw [← hh]; omega)
  have coh : ∀ i, co g i = ev g 0 * co h i := fun i => by
    have := co_of_ev (p := g) (q := smul (ev g 0) h) 0 (fun x _ => by rw [ev_smul]; exact hh x) i
    rw [co_smul] at this
    exact this
  refine ⟨h, co h m, h0, ⟨rfl, fun z => l.ne (by rw [← l.at_, coh, z]; simp), fun i hi => canc g0 (by rw [← coh, l.hi i hi]; simp)⟩, dv_whole hc h0 (w := smul (ev g 0) u) fun x => by rw [h1, hh, ev_smul]; grind, dv_whole he h0 (w := smul (ev g 0) v) fun x => by rw [h2, hh, ev_smul]; grind⟩
/-- no common factor but 1 -/
def Cop (p q : Po) : Prop := ∀ (h : Po) (m : Nat) (c : Int), ev h 0 = 1 → Lead h m c → Dv h p → Dv h q → m = 0
theorem lead0 {g : Po} {d : Int} (l : Lead g 0 d) (x : Int) : ev g x = d := by
  rw [ev_S (n := 1) x fun i hi => l.hi i (by omega)]
  show 0 + co g 0 * x ^ 0 = d
  rw [l.at_, Int.pow_zero]; omega
theorem nz_of1 {q : Po} (q1 : ev q 0 = 1) : NZ q := ⟨0, by rw [co0_ev, q1]; decide⟩
theorem bez {p q : Po} (q1 : ev q 0 = 1) (hc : Cop p q) : ∃ (s t : Po) (r : Int), r ≠ 0 ∧ ∀ x, ev s x * ev p x + ev t x * ev q x = r := by
  obtain ⟨g, s, t, u, v, c, e, hg, c0, e0, h1, h2, h3⟩ := ext_gcd q.length p q (fun i hi => co_len hi) (.inr (nz_of1 q1))
  obtain ⟨m, d, l, _⟩ := lead_of hg
  obtain ⟨h, d', a1, a2, a3, a4⟩ := norm_common c0 e0 h2 h3 q1 l
  have m0 := hc h m d' a1 a2 a3 a4
  subst m0
  exact ⟨s, t, d, l.ne, fun x => by rw [← h1, lead0 l]⟩
/-- the greatest common factor that begins with 1 -/
theorem gcd_ex : ∀ (n : Nat) (p q : Po), (∀ i, n ≤ i → co q i = 0) → ev q 0 = 1 → ∃ (g a b : Po), ev g 0 = 1 ∧ ev b 0 = 1 ∧ (∀ x, ev p x = ev g x * ev a x) ∧ (∀ x, ev q x = ev g x * ev b x) ∧ Cop a b := fun n => by
  have one : ∀ x, ev [1] x = 1 := fun x => by show 1 + x * 0 = (1 : Int); omega
  induction n using Nat.strongRecOn with
  | ind n ih =>
    intro p q hn q1
    by_cases hc : Cop p q
    · exact ⟨[1], p, q, one 0, q1, fun x => by rw [one]; omega, fun x => by rw [one]; omega, hc⟩
    · have : ∃ (h : Po) (m : Nat) (c : Int), ev h 0 = 1 ∧ Lead h m c ∧ Dv h p ∧ Dv h q ∧ m ≠ 0 := Classical.byContradiction fun k => hc fun h m c a1 a2 a3 a4 => Classical.byContradiction fun z => k ⟨h, m, c, a1, a2, a3, a4, z⟩
      obtain ⟨h, m, c, h0, l, ⟨p', hp⟩, ⟨q', hq⟩, m0⟩ := this
      have q'1 : ev q' 0 = 1 := by have := hq 0; rw [q1, h0] at this; omega
      obtain ⟨k, d, lk, _⟩ := lead_of (nz_of1 q'1)
      have lq : Lead q (m + k) (c * d) := by
        have lm := lead_mul l lk
        have ce := co_of_ev (p := q) (q := mul h q') 0 fun x _ => by rw [hq, ev_mul]
        exact ⟨(ce _).trans lm.at_, lm.ne, fun i hi => (ce i).trans (lm.hi i hi)⟩
      have kn : m + k < n := Nat.lt_of_not_le fun z => lq.ne (lq.at_.symm.trans (hn _ z))
      obtain ⟨g, a, b, g0, b0, ha, hb, cop⟩ := ih (k + 1) (by omega) p' q' (fun i hi => lk.hi i (by omega)) q'1
      exact ⟨mul h g, a, b, by rw [ev_mul, h0, g0]; rfl, b0, fun x => by rw [hp, ha, ev_mul]; grind, fun x => by rw [hq, hb, ev_mul]; grind, cop⟩
end SerM

namespace SerM
/-! ### the reduced form is the only one -/
theorem ev_cancel {p a b : Po} (hp : NZ p) (h : ∀ x, ev p x * ev a x = ev p x * ev b x) : ∀ x, ev a x = ev b x := by
  obtain ⟨N, _, hN⟩ := nz_big hp
  exact ev_of_co (co_of_ev N fun x hx => canc (hN x hx) (h x))
theorem dv_eq {p q : Po} (p1 : ev p 0 = 1) (q1 : ev q 0 = 1) (h : Dv p q) (k : Dv q p) : ∀ x, ev p x = ev q x := by
  obtain ⟨u, hu⟩ := h
  obtain ⟨v, hv⟩ := k
  have u1 : ev u 0 = 1 := by have := hu 0; rw [p1, q1] at this; omega
  have v1 : ev v 0 = 1 := by have := hv 0; rw [p1, q1] at this; omega
  have uv : ∀ x, ev (mul u v) x = ev [1] x := ev_cancel (nz_of1 p1) fun x => by
    have e1 : ev [1] x = 1 := by show 1 + x * 0 = (1 : Int); omega
    rw [ev_mul, e1]
    have a1 := hu x
    have a2 := hv x
    rw [a1] at a2
    grind
  obtain ⟨m, c, lu, _⟩ := lead_of (nz_of1 u1)
  obtain ⟨n, d, lv, _⟩ := lead_of (nz_of1 v1)
  have l1 : Lead [1] 0 1 := ⟨rfl, by decide, fun i hi => by
    cases i with
    | zero => omega
    | succ i => exact co_nil i⟩
  have ce := co_of_ev (p := [1]) (q := mul u v) 0 fun x _ => (uv x).symm
  have lm := lead_mul lu lv
  have := (lead_uniq l1 ⟨(ce _).trans lm.at_, lm.ne, fun i hi => (ce i).trans (lm.hi i hi)⟩).1
  have m0 : m = 0 := by omega
  subst m0
  intro x
  have c1 : c = 1 := by rw [← lead0 lu 0]; exact u1
  rw [hu, lead0 lu, c1]; omega
theorem cop_uniq {t1 b1 t2 b2 : Po} (c1 : Cop t1 b1) (c2 : Cop t2 b2) (h1 : ev b1 0 = 1) (h2 : ev b2 0 = 1) (he : ∀ x, ev t1 x * ev b2 x = ev t2 x * ev b1 x) : (∀ x, ev t1 x = ev t2 x) ∧ ∀ x, ev b1 x = ev b2 x := by
  have half : ∀ {t1 b1 t2 b2 : Po}, Cop t1 b1 → ev b1 0 = 1 → (∀ x, ev t1 x * ev b2 x = ev t2 x * ev b1 x) → Dv b1 b2 := fun {t1 b1 t2 b2} c h he => by
    obtain ⟨s, t, r, r0, hr⟩ := bez h c
    exact dv_whole r0 h (w := add (mul s t2) (mul t b2)) fun x => by
      rw [ev_add, ev_mul, ev_mul, ← hr x]
      have := he x
      grind
  have eb := dv_eq h1 h2 (half c1 h1 he) (half c2 h2 fun x => (he x).symm)
  exact ⟨ev_cancel (nz_of1 h1) fun x => by have := he x; rw [← eb x] at this; grind, eb⟩
/-! ### lists without zeros at the end -/
def Tm (p : Po) : Prop := ∀ h : p ≠ [], p.getLast h ≠ 0
def trim : Po → Po
  | [] => []
  | a :: r => match trim r with
    | [] => if a = 0 then [] else [a]
    | b :: s => a :: b :: s
theorem trim_co : ∀ (p : Po) (i : Nat), co (trim p) i = co p i
  | [], i => rfl
  | a :: r, i => by
    have ih := trim_co r
    unfold trim
    cases e : trim r with
    | nil =>
      rw [e] at ih
      by_cases a0 : a = 0
      · simp only [a0, if_true]
        cases i with
        | zero => rfl
        | succ i => rw [co_succ, ← ih i]; rfl
      · simp only [a0, if_false]
        cases i with
        | zero => rfl
        | succ i => rw [co_succ, co_succ, ← ih i]
    | cons b s =>
      rw [e] at ih
      cases i with
      | zero => rfl
      | succ i => exact ih i
theorem trim_tm : ∀ p : Po, Tm (trim p)
  | [] => fun h => absurd rfl h
  | a :: r => by
    have ih := trim_tm r
    unfold trim
    cases e : trim r with
    | nil =>
      by_cases a0 : a = 0
      · simp only [a0, if_true]; exact fun h => absurd rfl h
      · simp only [a0, if_false]; exact fun h => a0
    | cons b s =>
      rw [e] at ih
      intro h
      show (a :: b :: s).getLast h ≠ 0
      rw [List.getLast_cons (by simp)]
      exact ih (by simp)
theorem tm_lead {p : Po} (h : Tm p) (ne : p ≠ []) : Lead p (p.length - 1) (p.getLast ne) := by
  have hl : 0 < p.length := List.length_pos_iff.mpr ne
  refine ⟨?_, h ne, fun i hi => co_len (by omega)⟩
  unfold co
  rw [List.getD_eq_getElem?_getD, List.getLast_eq_getElem, List.getElem?_eq_getElem (by omega)]; rfl
theorem co_ext : ∀ {p q : Po}, p.length = q.length → (∀ i, co p i = co q i) → p = q
  | [], [], _, _ => rfl
  | a :: p, b :: q, hl, h => by
    have h0 : a = b := h 0
    rw [h0, co_ext (p := p) (q := q) (by simpa using hl) fun i => h (i + 1)]
theorem tm_nil {p : Po} (h : Tm p) : (∀ i, co p i = 0) ↔ p = [] := by
  constructor
  · intro z
    refine Classical.byContradiction fun ne => ?_
    have l := tm_lead h ne
    exact l.ne (l.at_.symm.trans (z _))
  · intro e i; rw [e]; exact co_nil i
/-- equal coefficients, equal lists -/
theorem tm_ext {p q : Po} (hp : Tm p) (hq : Tm q) (h : ∀ i, co p i = co q i) : p = q := by
  by_cases np : p = []
  · subst np
    exact ((tm_nil hq).mp fun i => by rw [← h]; exact co_nil i).symm
  · by_cases nq : q = []
    · subst nq
      exact (tm_nil hp).mp fun i => by rw [h]; exact co_nil i
    · have l1 := tm_lead hp np
      have l2 := tm_lead hq nq
      have := (lead_uniq l1 ⟨(h _).trans l2.at_, l2.ne, fun i hi => (h i).trans (l2.hi i hi)⟩).1
      have h1 : 0 < p.length := List.length_pos_iff.mpr np
      have h2 : 0 < q.length := List.length_pos_iff.mpr nq
      exact co_ext (by omega) h
theorem trim_ev (p : Po) (x : Int) : ev (trim p) x = ev p x := ev_of_co (trim_co p) x
theorem trim_len (p : Po) : (trim p).length ≤ p.length := by
  by_cases ne : trim p = []
  · rw [ne]; exact Nat.zero_le _
  · have l := tm_lead (trim_tm p) ne
    refine Nat.le_of_not_lt fun lt => l.ne (l.at_.symm.trans ?_)
    rw [trim_co]
    exact co_len (by omega)
theorem trim_id {p : Po} (h : Tm p) : trim p = p := tm_ext (trim_tm p) h (trim_co p)
/-! ### whether two have no common factor, by remainders -/
/-- one step of a division: the ends cancel -/
def step (f o : Po) : Po := trim (add (smul (o.getLastD 0) f) (smul (-(f.getLastD 0)) (zp (f.length - o.length) o)))
theorem lastD_tm {p : Po} (ne : p ≠ []) : p.getLastD 0 = p.getLast ne := by
  cases p with
  | nil => exact absurd rfl ne
  | cons a r => rfl
theorem step_len {f o : Po} (hf : Tm f) (ho : Tm o) (no : o ≠ []) (hl : o.length ≤ f.length) : (step f o).length < f.length := by
  have ol : 0 < o.length := List.length_pos_iff.mpr no
  have nf : f ≠ [] := fun e => by rw [e] at hl; simp at hl; exact no hl
  have lf := tm_lead hf nf
  have lo := tm_lead ho no
  by_cases ne : step f o = []
  · rw [ne]; show 0 < f.length; omega
  · have l := tm_lead (trim_tm _) ne
    have cz : ∀ i, f.length - 1 ≤ i → co (step f o) i = 0 := fun i hi => by
      unfold step
      rw [trim_co, co_add, co_smul, co_smul, lastD_tm nf, lastD_tm no, show i = (f.length - o.length) + (i - (f.length - o.length)) by omega, co_zp]
      rcases Nat.eq_or_lt_of_le hi with e | lt
      · rw [show f.length - o.length + (i - (f.length - o.length)) = f.length - 1 by omega, show i - (f.length - o.length) = o.length - 1 by omega, lf.at_, lo.at_]; grind
      · rw [lf.hi _ (by omega), lo.hi _ (by omega)]; simp
    refine Nat.lt_of_not_le fun ge => l.ne (l.at_.symm.trans (cz _ ?_))
    show f.length - 1 ≤ (step f o).length - 1
    omega
theorem step_ev {f o : Po} (x : Int) : ev (step f o) x = o.getLastD 0 * ev f x + -(f.getLastD 0 * x ^ (f.length - o.length)) * ev o x := by
  unfold step
  rw [trim_ev, ev_add, ev_smul, ev_smul, ev_zp]; grind
def rest : Nat → Po → Po → Po
  | 0, f, _ => f
  | n + 1, f, o => if o.length ≤ f.length then rest n (step f o) o else rest n f o
theorem rest_spec {o : Po} (ho : Tm o) (no : o ≠ []) : ∀ (n : Nat) (f : Po), Tm f → f.length < o.length + n → Tm (rest n f o) ∧ (rest n f o).length < o.length ∧ ∃ (c : Int) (w : Po), c ≠ 0 ∧ ∀ x, ev (rest n f o) x = c * ev f x + ev w x * ev o x
  | 0, f, hf, hl => ⟨hf, by show f.length < _; omega, 1, [], by decide, fun x => by show ev f x = 1 * ev f x + 0 * _; omega⟩
  | n + 1, f, hf, hl => by
    unfold rest
    by_cases le : o.length ≤ f.length
    · rw [if_pos le]
      have sl := step_len hf ho no le
      obtain ⟨h1, h2, c, w, hc, hw⟩ := rest_spec ho no n (step f o) (trim_tm _) (by omega)
      have l0 : o.getLastD 0 ≠ 0 := by rw [lastD_tm no]; exact ho no
      refine ⟨h1, h2, c * o.getLastD 0, add w (smul (-(c * f.getLastD 0)) (zp (f.length - o.length) [1])), fun z => (Int.mul_eq_zero.mp z).elim hc l0, fun x => ?_⟩
      have e1 : ev [1] x = 1 := by show 1 + x * 0 = (1 : Int); omega
      rw [hw, step_ev, ev_add, ev_smul, ev_zp, e1]; grind
    · rw [if_neg le]
      exact rest_spec ho no n f hf (by omega)
/-- the law's own way: true if the last one left is a number -/
def copr : Nat → Po → Po → Bool
  | 0, _, _ => false
  | n + 1, f, s => if s = [] then f.length == 1 else copr n s (rest f.length f s)
theorem copr_ok {p q : Po} (hc : Cop p q) (q1 : ev q 0 = 1) : ∀ (n : Nat) (f s : Po), Tm f → Tm s → (f ≠ [] ∨ s ≠ []) → s.length < n →
    (∀ (g u v : Po) (c e : Int), c ≠ 0 → e ≠ 0 → (∀ x, c * ev f x = ev g x * ev u x) → (∀ x, e * ev s x = ev g x * ev v x) → ∃ (u' v' : Po) (c' e' : Int), c' ≠ 0 ∧ e' ≠ 0 ∧ (∀ x, c' * ev p x = ev g x * ev u' x) ∧ ∀ x, e' * ev q x = ev g x * ev v' x) → copr n f s = true
  | 0, f, s, _, _, _, hl, _ => absurd hl (Nat.not_lt_zero _)
  | n + 1, f, s, hf, hs, hn, hl, hd => by
    unfold copr
    by_cases e : s = []
    · rw [if_pos e]
      have nf : f ≠ [] := hn.elim id fun h => absurd e h
      have lf := tm_lead hf nf
      obtain ⟨u', v', c', e', h1, h2, h3, h4⟩ := hd f [1] [] 1 1 (by decide) (by decide) (fun x => by show 1 * ev f x = ev f x * (1 + x * 0); grind) (fun x => by rw [e]; show 1 * 0 = ev f x * 0; omega)
      obtain ⟨h, d, a1, a2, a3, a4⟩ := norm_common h1 h2 h3 h4 q1 lf
      have := hc h _ d a1 a2 a3 a4
      have fl : 0 < f.length := List.length_pos_iff.mpr nf
      exact beq_iff_eq.mpr (by omega)
    · rw [if_neg e]
      have sl : 0 < s.length := List.length_pos_iff.mpr e
      obtain ⟨r1, r2, c0, w, hc0, hw⟩ := rest_spec hs e f.length f hf (by omega)
      refine copr_ok hc q1 n s (rest f.length f s) hs r1 (.inl e) (by omega) fun g u v c e' h1 h2 h3 h4 => ?_
      -- g divides f, too
      refine hd g (add (smul c v) (smul (-e') (mul w u))) u (c * e' * c0) c (fun z => ?_) h1 (fun x => ?_) h3
      · rcases Int.mul_eq_zero.mp z with z | z
        · exact (Int.mul_eq_zero.mp z).elim h1 h2
        · exact hc0 z
      · rw [ev_add, ev_smul, ev_smul, ev_mul]
        have b1 := hw x
        have b2 := h3 x
        have b3 := h4 x
        have b4 : c * e' * c0 * ev f x = c * (e' * ev (rest f.length f s) x) - e' * ev w x * (c * ev s x) := by rw [b1]; grind
        rw [b4, b2, b3]; grind
theorem copr_true {p q : Po} (hc : Cop p q) (q1 : ev q 0 = 1) (hp : Tm p) (hq : Tm q) {n : Nat} (hn : q.length < n) : copr n p q = true :=
  copr_ok hc q1 n p q hp hq (.inr fun e => by rw [e] at q1; exact absurd q1 (by decide)) hn fun g u v c e h1 h2 h3 h4 => ⟨u, v, c, e, h1, h2, h3, h4⟩
end SerM

namespace SerM
/-! ### balanced digits; X = 2 Y, 2 ≤ Y -/
def dg (Y r : Int) : Int := if Y < r % (2 * Y) then r % (2 * Y) - 2 * Y else r % (2 * Y)
def digs (Y : Int) : Nat → Int → Po
  | 0, _ => []
  | n + 1, r => if r = 0 then [] else dg Y r :: digs Y n ((r - dg Y r) / (2 * Y))
theorem dg_dvd {Y : Int} (r : Int) : ∃ e, r - dg Y r = 2 * Y * e := by
  have h := Int.emod_add_mul_ediv r (2 * Y)
  unfold dg
  split
  · exact ⟨r / (2 * Y) + 1, by rw [Int.mul_add]; omega⟩
  · exact ⟨r / (2 * Y), by omega⟩
theorem dg_rng {Y : Int} (hY : 2 ≤ Y) (r : Int) : -Y < dg Y r ∧ dg Y r ≤ Y := by
  have h1 := Int.emod_nonneg r (show 2 * Y ≠ 0 by omega)
  have h2 := Int.emod_lt_of_pos r (show 0 < 2 * Y by omega)
  unfold dg
  split <;> omega
theorem dg_next {Y : Int} (hY : 2 ≤ Y) {r : Int} : ∃ e, (r - dg Y r) / (2 * Y) = e ∧ r = dg Y r + 2 * Y * e := by
  obtain ⟨e, he⟩ := dg_dvd (Y := Y) r
  exact ⟨e, by rw [he, Int.mul_ediv_cancel_left _ (show 2 * Y ≠ 0 by omega)], by omega⟩
theorem dg_small {Y : Int} (hY : 2 ≤ Y) {r e : Int} (hr : r ≠ 0) (h : r = dg Y r + 2 * Y * e) : e.natAbs < r.natAbs := by
  obtain ⟨a, b⟩ := dg_rng hY r
  rcases Int.lt_trichotomy e 0 with z | z | z
  · have : 2 * Y * e ≤ 4 * e := by
      have := Int.mul_le_mul_of_nonneg_right (show 4 ≤ 2 * Y by omega) (show 0 ≤ -e by omega)
      rw [Int.mul_neg, Int.mul_neg] at this; omega
    have h3 : 2 * Y * e ≤ -(2 * Y) := by
      have := Int.mul_le_mul_of_nonneg_left (show 1 ≤ -e by omega) (show 0 ≤ 2 * Y by omega)
      rw [Int.mul_neg] at this; omega
    omega
  · omega
  · have : 4 * e ≤ 2 * Y * e := Int.mul_le_mul_of_nonneg_right (by omega) (by omega)
    have h3 : 2 * Y ≤ 2 * Y * e := by
      have := Int.mul_le_mul_of_nonneg_left (show 1 ≤ e by omega) (show 0 ≤ 2 * Y by omega)
      omega
    omega
theorem digs_ev {Y : Int} (hY : 2 ≤ Y) : ∀ (n : Nat) (r : Int), r.natAbs ≤ n → ev (digs Y n r) (2 * Y) = r
  | 0, r, h => by
    have : r = 0 := by omega
    subst this; rfl
  | n + 1, r, h => by
    by_cases r0 : r = 0
    · subst r0; simp [digs, ev]
    · obtain ⟨e, h1, h2⟩ := dg_next hY (r := r)
      have hs := dg_small hY r0 h2
      have ih := digs_ev hY n e (by omega)
      simp only [digs, r0, if_false, h1]
      show dg Y r + 2 * Y * ev (digs Y n e) (2 * Y) = r
      rw [ih]; omega
theorem digs_rng {Y : Int} (hY : 2 ≤ Y) : ∀ (n : Nat) (r : Int) (i : Nat), -Y < co (digs Y n r) i ∧ co (digs Y n r) i ≤ Y
  | 0, r, i => by rw [show digs Y 0 r = [] from rfl, co_nil]; omega
  | n + 1, r, i => by
    by_cases r0 : r = 0
    · simp only [digs, r0, if_true, co_nil]; omega
    · simp only [digs, r0, if_false]
      cases i with
      | zero => exact dg_rng hY r
      | succ i => exact digs_rng hY n _ i
theorem digs_tm {Y : Int} (hY : 2 ≤ Y) : ∀ (n : Nat) (r : Int), r.natAbs ≤ n → Tm (digs Y n r)
  | 0, r, _ => fun h => absurd rfl h
  | n + 1, r, hn => by
    by_cases r0 : r = 0
    · simp only [digs, r0, if_true]; exact fun h => absurd rfl h
    · obtain ⟨e, h1, h2⟩ := dg_next hY (r := r)
      have hs := dg_small hY r0 h2
      have ih := digs_tm hY n e (by omega)
      have ie := digs_ev hY n e (by omega)
      simp only [digs, r0, if_false, h1]
      intro h
      by_cases q : digs Y n e = []
      · rw [q] at ie
        have e0 : e = 0 := ie.symm
        subst e0
        simp only [q]
        show dg Y r ≠ 0
        omega
      · rw [List.getLast_cons q]; exact ih q
theorem digs_zero {Y : Int} : ∀ n, digs Y n 0 = []
  | 0 => rfl
  | n + 1 => by simp [digs]
theorem dg_of {Y a e : Int} (hY : 2 ≤ Y) (h1 : -Y < a) (h2 : a ≤ Y) : dg Y (a + 2 * Y * e) = a := by
  have hm : (a + 2 * Y * e) % (2 * Y) = a % (2 * Y) := Int.add_mul_emod_self_left a (2 * Y) e
  unfold dg
  rw [hm]
  by_cases z : 0 ≤ a
  · rw [Int.emod_eq_of_lt z (by omega)]; split <;> omega
  · have : a % (2 * Y) = a + 2 * Y := by
      rw [← Int.add_emod_right, Int.emod_eq_of_lt (by omega) (by omega)]
    rw [this]; split <;> omega
/-- balanced digits are the only ones -/
theorem digs_uniq {Y : Int} (hY : 2 ≤ Y) : ∀ (p : Po) (n : Nat), (∀ i, -Y < co p i ∧ co p i ≤ Y) → (ev p (2 * Y)).natAbs ≤ n → ∀ i, co (digs Y n (ev p (2 * Y))) i = co p i
  | [], n, _, _, i => by rw [show ev [] (2 * Y) = 0 from rfl, digs_zero]
  | a :: p, n, hp, hn, i => by
    have ih := digs_uniq hY p
    have ha := hp 0
    rw [co_zero] at ha
    have hp' : ∀ i, -Y < co p i ∧ co p i ≤ Y := fun i => hp (i + 1)
    have ee : ev (a :: p) (2 * Y) = a + 2 * Y * ev p (2 * Y) := rfl
    have hd := dg_of (e := ev p (2 * Y)) hY ha.1 ha.2
    rw [← ee] at hd
    by_cases r0 : ev (a :: p) (2 * Y) = 0
    · rw [r0, digs_zero, co_nil]
      have a0 : a = 0 := by
        rw [← hd, r0]; unfold dg; simp; omega
      have e0 : ev p (2 * Y) = 0 := by
        rw [r0, a0] at ee
        have : 2 * Y * ev p (2 * Y) = 0 := by omega
        rcases Int.mul_eq_zero.mp this with z | z
        · omega
        · exact z
      cases i with
      | zero => rw [co_zero, a0]
      | succ i =>
        have := ih 0 hp' (by rw [e0]; simp) i
        rw [e0, digs_zero, co_nil] at this
        rw [co_succ]; exact this
    · cases n with
      | zero => omega
      | succ n =>
        obtain ⟨e, h1, h2⟩ := dg_next hY (r := ev (a :: p) (2 * Y))
        have hs := dg_small hY r0 h2
        rw [hd, ee] at h2
        have ep : e = ev p (2 * Y) := by
          have : 2 * Y * e = 2 * Y * ev p (2 * Y) := by omega
          exact canc (by omega) this
        simp only [digs, r0, if_false]
        rw [h1, hd, ep]
        cases i with
        | zero => rfl
        | succ i => exact ih n hp' (by rw [← ep]; omega) i
/-! ### begun_with_one -/
def begun (p : Po) : Option Po := if (p.all fun v => v.fdiv (co p 0) * co p 0 == v) then some (p.map fun v => v.fdiv (co p 0)) else none
theorem co_map0 {f : Int → Int} (f0 : f 0 = 0) : ∀ (p : Po) (i : Nat), co (p.map f) i = f (co p i)
  | [], i => by rw [co_nil, f0]; exact co_nil i
  | a :: r, 0 => rfl
  | a :: r, i + 1 => co_map0 f0 r i
theorem begun_some {p F : Po} (p0 : co p 0 ≠ 0) (h : begun p = some F) : (∀ i, co p i = co p 0 * co F i) ∧ co F 0 = 1 ∧ F.length = p.length := by
  unfold begun at h
  split at h
  · rename_i hall
    obtain rfl : (p.map fun v => v.fdiv (co p 0)) = F := Option.some.inj h
    have hc : ∀ i, co (p.map fun v => v.fdiv (co p 0)) i = (co p i).fdiv (co p 0) := co_map0 (f := fun v => v.fdiv (co p 0)) (Int.zero_fdiv _) p
    have hm : ∀ v ∈ p, v.fdiv (co p 0) * co p 0 = v := fun v hv => by
      have := List.all_eq_true.mp hall v hv
      simpa using this
    refine ⟨fun i => ?_, ?_, by simp⟩
    · rw [hc]
      by_cases hi : i < p.length
      · have : co p i ∈ p := by
          unfold co
          rw [List.getD_eq_getElem?_getD, List.getElem?_eq_getElem hi]
          exact List.getElem_mem hi
        have := hm _ this
        rw [Int.mul_comm]; exact this.symm
      · rw [co_len (by omega), Int.zero_fdiv]; omega
    · rw [hc, Int.fdiv_self p0]
  · cases h
theorem begun_ok {p F : Po} {c : Int} (hl : F.length = p.length) (c0 : c ≠ 0) (F0 : co F 0 = 1) (h : ∀ i, co p i = c * co F i) : begun p = some F := by
  have pc : co p 0 = c := by rw [h, F0]; omega
  have hd : ∀ i, (co p i).fdiv (co p 0) = co F i := fun i => by
    rw [pc, h]; exact Int.mul_fdiv_cancel_left _ c0
  unfold begun
  rw [if_pos]
  · congr 1
    exact co_ext (by simp [hl]) fun i => by rw [co_map0 (f := fun v => v.fdiv (co p 0)) (Int.zero_fdiv _), hd]
  · rw [List.all_eq_true]
    intro v hv
    obtain ⟨i, hi, rfl⟩ := List.getElem_of_mem hv
    have e : p[i] = co p i := by unfold co; rw [List.getD_eq_getElem?_getD, List.getElem?_eq_getElem hi]; rfl
    rw [e, hd, pc, h]
    simp [Int.mul_comm]
/-! ### quotient_of -/
def qt (row F : Po) : Nat → Po
  | 0 => []
  | k + 1 => qt row F k ++ [co row k - co (mul (qt row F k) F) k]
theorem qt_len (row F : Po) : ∀ k, (qt row F k).length = k
  | 0 => rfl
  | k + 1 => by simp [qt, qt_len row F k]
theorem ev_app : ∀ (p q : Po) (x : Int), ev (p ++ q) x = ev p x + x ^ p.length * ev q x
  | [], q, x => by simp [ev]
  | a :: p, q, x => by
    show a + x * ev (p ++ q) x = a + x * ev p x + x ^ (p.length + 1) * ev q x
    rw [ev_app p q x, Int.pow_succ]; grind
theorem co_app1 {p : Po} {t : Int} {i : Nat} : co (p ++ [t]) i = if i < p.length then co p i else if i = p.length then t else 0 := by
  unfold co
  simp only [List.getD_eq_getElem?_getD]
  by_cases h : i < p.length
  · simp [h, List.getElem?_append_left h]
  · by_cases k : i = p.length
    · subst k; simp
    · simp only [h, k, if_false]
      rw [List.getElem?_eq_none (by simp; omega)]; rfl
/-- one more step of the division -/
theorem qt_step (row F : Po) (k i : Nat) : co (mul (qt row F (k + 1)) F) i = co (mul (qt row F k) F) i + (if k ≤ i then (co row k - co (mul (qt row F k) F) k) * co F (i - k) else 0) := by
  have hq := qt_len row F k
  generalize ht : co row k - co (mul (qt row F k) F) k = t
  have e : ∀ x, ev (mul (qt row F (k + 1)) F) x = ev (add (mul (qt row F k) F) (zp k (smul t F))) x := fun x => by
    rw [ev_mul, ev_add, ev_mul, ev_zp, ev_smul]
    simp only [qt]
    rw [ht, ev_app, hq]
    show (ev (qt row F k) x + x ^ k * (t + x * 0)) * ev F x = _
    grind
  rw [co_of_ev 0 (fun x _ => e x), co_add]
  congr 1
  by_cases h : k ≤ i
  · simp only [h, if_true]
    obtain ⟨j, rfl⟩ : ∃ j, i = k + j := ⟨i - k, by omega⟩
    rw [co_zp, co_smul]; congr 2; omega
  · simp only [h, if_false]
    have : ∀ (k i : Nat) (q : Po), i < k → co (zp k q) i = 0 := fun k => by
      induction k with
      | zero => intro i q h; omega
      | succ k ih =>
        intro i q h
        cases i with
        | zero => rfl
        | succ i => exact ih i q (by omega)
    exact this _ _ _ (by omega)
theorem qt_ok {row F q : Po} (F0 : co F 0 = 1) (h : ∀ x, ev row x = ev F x * ev q x) : ∀ (k i : Nat), i < k → co (qt row F k) i = co q i
  | 0, i, hi => by omega
  | k + 1, i, hi => by
    have ih := qt_ok F0 h k
    have hq := qt_len row F k
    show co (qt row F k ++ [_]) i = _
    rw [co_app1, hq]
    by_cases z : i < k
    · simp only [z, if_true]; exact ih i z
    · have : i = k := by omega
      subst this
      simp only [Nat.lt_irrefl, if_false, if_true]
      have e1 : co row i = co (mul q F) i := co_of_ev 0 (fun x _ => by rw [ev_mul, h]; grind) i
      rw [e1, co_mul, co_mul]
      show (S i _ + co q i * co F (i - i)) - (S i _ + co (qt row F i) i * co F (i - i)) = _
      rw [S_congr (f := fun l => co (qt row F i) l * co F (i - l)) (g := fun l => co q l * co F (i - l)) fun l hl => by show co (qt row F i) l * _ = _; rw [ih l hl]]
      rw [co_len (by omega : (qt row F i).length ≤ i), Nat.sub_self, F0]; omega
end SerM

namespace SerM
theorem mul_len0 : ∀ (p q : Po) (i : Nat), p.length + q.length ≤ i + 1 → co (mul p q) i = 0 := fun p q i h => by
  rw [co_mul]
  refine S_zero fun l hl => ?_
  by_cases z : l < p.length
  · rw [co_len (p := q) (by omega)]; omega
  · rw [co_len (p := p) (by omega)]; omega
def quo (row F : Po) : Option Po :=
  if ∀ i, i < row.length → co row i = co (mul (qt row F (row.length + 1 - F.length)) F) i then some (qt row F (row.length + 1 - F.length)) else none
theorem quo_some {row F q : Po} (h : quo row F = some q) (F1 : 1 ≤ F.length) : (∀ x, ev row x = ev F x * ev q x) ∧ q.length = row.length + 1 - F.length := by
  unfold quo at h
  split at h
  · rename_i hc
    obtain rfl := Option.some.inj h
    refine ⟨fun x => ?_, qt_len _ _ _⟩
    rw [ev_of_co (q := mul (qt row F (row.length + 1 - F.length)) F) (fun i => ?_) x, ev_mul]
    · grind
    · by_cases hi : i < row.length
      · exact hc i hi
      · by_cases hl : F.length ≤ row.length
        · rw [co_len (by omega), mul_len0 _ _ _ (by rw [qt_len]; omega)]
        · rw [show row.length + 1 - F.length = 0 by omega, co_len (by omega)]
          show 0 = co [] i
          rw [co_nil]
  · cases h
/-- a product of a factor that begins with 1 and a list that doesn't end with 0 -/
theorem quo_ok {row F q : Po} (hr : Tm row) (hF : Tm F) (F0 : co F 0 = 1) (hq : Tm q) (h : ∀ x, ev row x = ev F x * ev q x) : quo row F = some q := by
  have F1 : F ≠ [] := fun z => by rw [z, co_nil] at F0; omega
  by_cases q0 : q = []
  · subst q0
    have r0 : row = [] := (tm_nil hr).mp fun i => by
      rw [co_of_ev (q := []) 0 (fun x _ => by rw [h]; show _ * (0 : Int) = 0; omega) i, co_nil]
    subst r0
    have : F.length ≠ 0 := fun z => F1 (List.length_eq_zero_iff.mp z)
    unfold quo
    rw [if_pos (fun i hi => by simp at hi)]
    have e : ([] : Po).length + 1 - F.length = 0 := by show 0 + 1 - F.length = 0; omega
    rw [e]; rfl
  · have lF := tm_lead hF F1
    have lq := tm_lead hq q0
    have lm := lead_mul lF lq
    have ce := co_of_ev (p := row) (q := mul F q) 0 fun x _ => by rw [h, ev_mul]
    have lr : Lead row (F.length - 1 + (q.length - 1)) _ := ⟨(ce _).trans lm.at_, lm.ne, fun i hi => (ce i).trans (lm.hi i hi)⟩
    have rn : row ≠ [] := fun z => lr.ne (by rw [← lr.at_, z, co_nil])
    have le := (lead_uniq lr (tm_lead hr rn)).1
    have a1 : F.length ≠ 0 := fun z => F1 (List.length_eq_zero_iff.mp z)
    have a2 : q.length ≠ 0 := fun z => q0 (List.length_eq_zero_iff.mp z)
    have a3 : row.length ≠ 0 := fun z => rn (List.length_eq_zero_iff.mp z)
    have em : row.length + 1 - F.length = q.length := by omega
    have eq : qt row F q.length = q := co_ext (qt_len _ _ _) fun i => by
      by_cases hi : i < q.length
      · exact qt_ok F0 h _ i hi
      · rw [co_len (by rw [qt_len]; omega), co_len (by omega)]
    unfold quo
    rw [em, eq, if_pos]
    intro i _
    exact co_of_ev 0 (fun x _ => by rw [ev_mul, h]; grind) i
/-- one look of `cancelled` -/
def look (Y : Nat) (one other : Po) : Option (Po × Po) :=
  match begun (digs (Y : Int) (Int.gcd (ev one (2 * Y)) (ev other (2 * Y))) (Int.gcd (ev one (2 * Y)) (ev other (2 * Y)))) with
  | none => none
  | some F => match quo one F, quo other F with
    | some l, some r => some (l, r)
    | _, _ => none
theorem odd_val {p : Po} (p1 : ev p 0 = 1) (x : Int) : ∃ k, ev p x = 1 + x * k := by
  cases p with
  | nil => exact absurd p1 (by decide)
  | cons a r =>
    have : a = 1 := by have : a + 0 * ev r 0 = 1 := p1; omega
    subst this
    exact ⟨ev r x, rfl⟩
theorem gcd_odd {Y : Nat} {one other : Po} (o1 : ev other 0 = 1) : (Int.gcd (ev one (2 * Y)) (ev other (2 * Y)) : Int) % 2 = 1 := by
  obtain ⟨k, hk⟩ := odd_val o1 (2 * (Y : Int))
  obtain ⟨e, he⟩ := Int.gcd_dvd_right (ev one (2 * (Y : Int))) (ev other (2 * (Y : Int)))
  generalize (Int.gcd (ev one (2 * (Y : Int))) (ev other (2 * (Y : Int))) : Int) = g at *
  rw [hk, Int.mul_assoc] at he
  have h2 : (g * e) % 2 = 1 := by rw [← he]; omega
  rw [Int.mul_emod] at h2
  rcases Int.emod_two_eq g with z | z
  · rw [z] at h2; simp at h2
  · exact z
theorem ev_mod {p : Po} (x : Int) : ∃ k, ev p x = co p 0 + x * k := by
  cases p with
  | nil => exact ⟨0, by show (0 : Int) = 0 + x * 0; omega⟩
  | cons a r => exact ⟨ev r x, rfl⟩
/-- what a look gives is reduced -/
theorem look_sound {Y : Nat} {one other l r : Po} {n : Nat} (hY : 2 ≤ Y) (o1 : ev other 0 = 1) (ht1 : Tm one) (ht2 : Tm other) (dom : Dom one n (2 * Y) ∨ Dom other n (2 * Y)) (h : look Y one other = some (l, r)) : Cop l r ∧ ev r 0 = 1 ∧ ∀ x, ev one x * ev r x = ev other x * ev l x := by
  unfold look at h
  have godd := gcd_odd (Y := Y) (one := one) o1
  have gl := Int.gcd_dvd_left (ev one (2 * (Y : Int))) (ev other (2 * (Y : Int)))
  have gr := Int.gcd_dvd_right (ev one (2 * (Y : Int))) (ev other (2 * (Y : Int)))
  have gm : ∀ {d : Int}, d ∣ ev one (2 * (Y : Int)) → d ∣ ev other (2 * (Y : Int)) → d ∣ (Int.gcd (ev one (2 * (Y : Int))) (ev other (2 * (Y : Int))) : Int) := fun a b => Int.dvd_coe_gcd a b
  generalize Int.gcd (ev one (2 * (Y : Int))) (ev other (2 * (Y : Int))) = D at *
  have hY' : 2 ≤ (Y : Int) := by omega
  have pe := digs_ev hY' D (D : Int) (by omega)
  have pr := digs_rng hY' D (D : Int)
  generalize digs (Y : Int) D (D : Int) = p at *
  have p0 : co p 0 ≠ 0 := fun z => by
    obtain ⟨k, hk⟩ := ev_mod (p := p) (2 * (Y : Int))
    rw [pe, z, Int.mul_assoc] at hk
    omega
  cases hb : begun p with
  | none => rw [hb] at h; cases h
  | some F =>
    rw [hb] at h
    obtain ⟨hF, F0, Fl⟩ := begun_some p0 hb
    have F1 : 1 ≤ F.length := Nat.pos_of_ne_zero fun z => by rw [List.length_eq_zero_iff.mp z, co_nil] at F0; omega
    simp only at h
    cases hq1 : quo one F with
    | none => rw [hq1] at h; cases h
    | some l' =>
      cases hq2 : quo other F with
      | none => rw [hq1, hq2] at h; cases h
      | some r' =>
        rw [hq1, hq2] at h
        simp only [Option.some.injEq, Prod.mk.injEq] at h
        obtain ⟨rfl, rfl⟩ := h
        obtain ⟨e1, _⟩ := quo_some hq1 F1
        obtain ⟨e2, _⟩ := quo_some hq2 F1
        have F0' : ev F 0 = 1 := by rw [← co0_ev]; exact F0
        have r1 : ev r' 0 = 1 := by have := e2 0; rw [o1, F0'] at this; omega
        refine ⟨?_, r1, fun x => by rw [e1, e2]; grind⟩
        intro h m c h0 lh ⟨u, hu⟩ ⟨v, hv⟩
        have pF : ∀ x, ev p x = co p 0 * ev F x := fun x => by
          rw [ev_of_co (q := smul (co p 0) F) (fun i => by rw [co_smul, hF]) x, ev_smul]
        have d1 : ev h (2 * (Y : Int)) * ev F (2 * (Y : Int)) ∣ (D : Int) := gm
          ⟨ev u (2 * (Y : Int)), by rw [e1, hu]; grind⟩ ⟨ev v (2 * (Y : Int)), by rw [e2, hv]; grind⟩
        have D0 : (D : Int) ≠ 0 := by omega
        rw [← pe, pF] at d1 D0
        have Fx : ev F (2 * (Y : Int)) ≠ 0 := fun z => D0 (by rw [z]; simp)
        have d2 : ev h (2 * (Y : Int)) ∣ co p 0 := by
          obtain ⟨w, hw⟩ := d1
          exact ⟨w, canc Fx (by grind)⟩
        have le : (ev h (2 * (Y : Int))).natAbs ≤ (co p 0).natAbs := Nat.le_of_dvd (by omega) (Int.natAbs_dvd_natAbs.mpr d2)
        obtain ⟨k, hk⟩ := odd_val h0 (2 * (Y : Int))
        have hx1 : ev h (2 * (Y : Int)) = 1 := by
          have := pr 0
          rcases Int.lt_trichotomy k 0 with z | z | z
          · have h3 : 2 * (Y : Int) * k ≤ -(2 * (Y : Int)) := by
              have := Int.mul_le_mul_of_nonneg_left (show 1 ≤ -k by omega) (show 0 ≤ 2 * (Y : Int) by omega)
              rw [Int.mul_neg] at this; omega
            omega
          · subst z; rw [hk]; omega
          · have h3 : 2 * (Y : Int) ≤ 2 * (Y : Int) * k := by
              have := Int.mul_le_mul_of_nonneg_left (show 1 ≤ k by omega) (show 0 ≤ 2 * (Y : Int) by omega)
              omega
            omega
        have cx : ((2 * Y : Nat) : Int) = 2 * (Y : Int) := by omega
        rcases dom with d | d
        · exact no_factor (X := 2 * Y) (k := mul F u) d (fun x => by rw [ev_mul, e1, hu]; grind) (by rw [co0_ev]; exact h0) lh (by rw [cx]; exact hx1)
        · exact no_factor (X := 2 * Y) (k := mul F v) d (fun x => by rw [ev_mul, e2, hv]; grind) (by rw [co0_ev]; exact h0) lh (by rw [cx]; exact hx1)
end SerM

namespace SerM
/-! ### a power beyond the roots -/
theorem sn_le : ∀ {n : Nat} {f g : Nat → Nat}, (∀ j, j < n → f j ≤ g j) → SN n f ≤ SN n g
  | 0, _, _, _ => Nat.le_refl _
  | n + 1, f, g, h => Nat.add_le_add (sn_le fun j hj => h j (by omega)) (h n (by omega))
theorem sn_geo {W X : Nat} (hX : X = 4 * W) : ∀ n, 2 * SN n (fun j => W ^ (n - j) * X ^ j) ≤ X ^ n
  | 0 => by simp [SN]
  | n + 1 => by
    have ih := sn_geo hX n
    have e : SN n (fun j => W ^ (n + 1 - j) * X ^ j) = SN n (fun j => W ^ (n - j) * X ^ j) * W := by
      rw [← SN_mul]
      have : ∀ (m : Nat), m ≤ n → SN m (fun j => W ^ (n + 1 - j) * X ^ j) = SN m (fun j => W ^ (n - j) * X ^ j * W) := fun m => by
        induction m with
        | zero => intro _; rfl
        | succ m im =>
          intro hm
          show SN m _ + W ^ (n + 1 - m) * X ^ m = SN m _ + W ^ (n - m) * X ^ m * W
          rw [im (by omega), show n + 1 - m = (n - m) + 1 by omega, Nat.pow_succ]
          congr 1
          rw [Nat.mul_assoc, Nat.mul_assoc, Nat.mul_comm W]
      exact this n (Nat.le_refl n)
    show 2 * (SN n (fun j => W ^ (n + 1 - j) * X ^ j) + W ^ (n + 1 - n) * X ^ n) ≤ X ^ (n + 1)
    rw [e, show n + 1 - n = 1 by omega, Nat.pow_one, Nat.pow_succ]
    have h1 := Nat.mul_le_mul_right W ih
    have h2 : X ^ n * X = 4 * (X ^ n * W) := by
      have : X ^ n * X = X ^ n * (4 * W) := by rw [← hX]
      rw [this, Nat.mul_left_comm]
    rw [h2, Nat.mul_comm W (X ^ n)]
    rw [Nat.mul_assoc] at h1
    omega
theorem dom_of {f : Po} {n W X : Nat} (hX : X = 4 * W) (hW : 0 < W) (ne : co f n ≠ 0) (hi : ∀ i, n < i → co f i = 0) (hj : ∀ j, j < n → (co f j).natAbs * 2 ^ (n - j) ≤ (co f n).natAbs * W ^ (n - j)) : Dom f n X := by
  refine ⟨by omega, ne, hi, ?_⟩
  have h1 : SN n (fun j => (co f j).natAbs * X ^ j * 2 ^ (n - j)) ≤ SN n (fun j => W ^ (n - j) * X ^ j * (co f n).natAbs) := sn_le fun j hl => by
    have := Nat.mul_le_mul_right (X ^ j) (hj j hl)
    calc (co f j).natAbs * X ^ j * 2 ^ (n - j) = (co f j).natAbs * 2 ^ (n - j) * X ^ j := by rw [Nat.mul_right_comm]
      _ ≤ (co f n).natAbs * W ^ (n - j) * X ^ j := this
      _ = W ^ (n - j) * X ^ j * (co f n).natAbs := by rw [Nat.mul_assoc, Nat.mul_comm]
  rw [SN_mul] at h1
  have h2 := Nat.mul_le_mul_right (co f n).natAbs (sn_geo hX n)
  rw [Nat.mul_comm (co f n).natAbs (X ^ n)]
  rw [Nat.mul_assoc] at h2
  omega
/-! ### a bound for the coefficients by values at places -/
def sd (y : Int) : Po → Po
  | [] => []
  | _ :: r => add r (smul y (sd y r))
theorem ev_sd (y : Int) : ∀ (g : Po) (x : Int), ev g x = ev g y + (x - y) * ev (sd y g) x
  | [], x => by show (0 : Int) = 0 + (x - y) * 0; omega
  | a :: r, x => by
    show a + x * ev r x = a + y * ev r y + (x - y) * ev (add r (smul y (sd y r))) x
    rw [ev_add, ev_smul]
    have := ev_sd y r x
    grind
theorem add_len : ∀ (p q : Po), q.length ≤ p.length → (add p q).length = p.length
  | p, [], _ => by cases p <;> rfl
  | [], b :: q, h => by simp at h
  | a :: p, b :: q, h => by
    show (add p q).length + 1 = p.length + 1
    rw [add_len p q (by simpa using h)]
theorem sd_len (y : Int) : ∀ (g : Po), (sd y g).length = g.length - 1
  | [] => rfl
  | a :: r => by
    show (add r (smul y (sd y r))).length = _
    have := sd_len y r
    rw [add_len _ _ (by unfold smul; rw [List.length_map, this]; omega)]; rfl
theorem co_sd (y : Int) (g : Po) (i : Nat) : co g i = (if i = 0 then ev g y else 0) + (if i = 0 then 0 else co (sd y g) (i - 1)) - y * co (sd y g) i := by
  have e : ∀ x, ev g x = ev (add [ev g y] (add (0 :: sd y g) (smul (-y) (sd y g)))) x := fun x => by
    rw [ev_add, ev_add, ev_smul, ev_sd y g x]
    show _ = (ev g y + x * 0) + ((0 + x * ev (sd y g) x) + _)
    grind
  rw [co_of_ev 0 (fun x _ => e x), co_add, co_add, co_smul]
  cases i with
  | zero => show ev g y + (0 + -y * co (sd y g) 0) = ev g y + 0 - y * co (sd y g) 0; grind
  | succ i => show co [] i + (co (sd y g) i + -y * co (sd y g) (i + 1)) = 0 + co (sd y g) i - y * co (sd y g) (i + 1); rw [co_nil]; grind
theorem interp : ∀ (ys : List Int) (g : Po) (K L : Nat), g.length ≤ ys.length → ys.Nodup → (∀ y ∈ ys, y.natAbs ≤ L) → (∀ y ∈ ys, (ev g y).natAbs ≤ K) → ∀ i, (co g i).natAbs ≤ K * (3 * (1 + L)) ^ ys.length
  | [], g, K, L, hl, _, _, _, i => by
    rw [co_len (by have : g.length = 0 := Nat.le_zero.mp hl; omega)]; exact Nat.zero_le _
  | y :: ys, g, K, L, hl, nd, hL, hK, i => by
    obtain ⟨ny, nd'⟩ := List.nodup_cons.mp nd
    have hL' : ∀ z ∈ ys, z.natAbs ≤ L := fun z hz => hL z (List.mem_cons_of_mem _ hz)
    have hy := hL y List.mem_cons_self
    have ky := hK y List.mem_cons_self
    have ih := interp ys (sd y g) (2 * K) L (by rw [sd_len]; simp at hl; omega) nd' hL' fun z hz => by
      have kz := hK z (List.mem_cons_of_mem _ hz)
      have zy : z - y ≠ 0 := fun e => ny (by rw [show y = z by omega]; exact hz)
      have e := ev_sd y g z
      have h1 : ((z - y) * ev (sd y g) z).natAbs ≤ 2 * K := by omega
      rw [Int.natAbs_mul] at h1
      have := Nat.le_mul_of_pos_left (ev (sd y g) z).natAbs (show 0 < (z - y).natAbs by omega)
      omega
    have e := co_sd y g i
    have h0 := ih i
    have h1 := ih (i - 1)
    generalize hP : (3 * (1 + L)) ^ ys.length = P at *
    have P1 : 1 ≤ P := by rw [← hP]; exact Nat.pow_pos (by omega)
    rw [List.length_cons, Nat.pow_succ, hP]
    have h2 : (y * co (sd y g) i).natAbs ≤ L * (2 * K * P) := by
      rw [Int.natAbs_mul]; exact Nat.mul_le_mul hy h0
    have h3 : (co g i).natAbs ≤ K + 2 * K * P + L * (2 * K * P) := by
      rw [e]
      by_cases z : i = 0
      · simp only [z, if_true] at *; omega
      · simp only [z, if_false] at *; omega
    have h4 : K ≤ K * P := Nat.le_mul_of_pos_right K P1
    have h5 : K * (P * (3 * (1 + L))) = 3 * (K * P) + 3 * (L * (K * P)) := by grind
    have h6 : L * (2 * K * P) = 2 * (L * (K * P)) := by grind
    rw [h5]
    rw [Nat.mul_assoc] at h3
    rw [← Nat.mul_assoc 2 K P, h6] at h3
    rw [Nat.mul_assoc] at h3
    omega
end SerM

namespace SerM
/-! ### a factor's coefficients -/
theorem ev_bd {A L : Nat} {x : Int} (hx : x.natAbs ≤ L) : ∀ (p : Po), (∀ i, (co p i).natAbs ≤ A) → (ev p x).natAbs ≤ A * (1 + L) ^ p.length
  | [], _ => Nat.zero_le _
  | a :: r, h => by
    have ih := ev_bd hx r fun i => h (i + 1)
    have h0 : a.natAbs ≤ A := h 0
    show (a + x * ev r x).natAbs ≤ A * (1 + L) ^ (r.length + 1)
    have h1 : (x * ev r x).natAbs ≤ L * (A * (1 + L) ^ r.length) := by rw [Int.natAbs_mul]; exact Nat.mul_le_mul hx ih
    have h2 : A ≤ A * (1 + L) ^ r.length := Nat.le_mul_of_pos_right _ (Nat.pow_pos (by omega))
    have h3 : A * (1 + L) ^ (r.length + 1) = A * (1 + L) ^ r.length + L * (A * (1 + L) ^ r.length) := by rw [Nat.pow_succ]; grind
    omega
theorem filter_both {α : Type} (q : α → Bool) : ∀ l : List α, (l.filter q).length + (l.filter fun a => !q a).length = l.length
  | [] => rfl
  | a :: l => by
    have := filter_both q l
    cases h : q a <;> simp [h] <;> omega
theorem places {f : Po} {m : Nat} (hf : NZ f) (hm : f.length ≤ m) : ∃ ys : List Int, ys.length = m ∧ ys.Nodup ∧ (∀ y ∈ ys, y.natAbs ≤ m) ∧ ∀ y ∈ ys, ev f y ≠ 0 := by
  let pts : List Int := (List.range (2 * m)).map fun (i : Nat) => (i : Int) - (m : Int)
  have pl : pts.length = 2 * m := by simp [pts]
  have pn : pts.Nodup := by
    refine List.Pairwise.map _ (fun a b h => ?_) (List.nodup_range (n := 2 * m))
    omega
  have pb : ∀ y ∈ pts, y.natAbs ≤ m := fun y hy => by
    obtain ⟨i, hi, rfl⟩ := List.mem_map.mp hy
    have := List.mem_range.mp hi
    omega
  have hb := filter_both (fun y => decide (ev f y = 0)) pts
  have few : (pts.filter fun y => decide (ev f y = 0)).length < m := Nat.lt_of_not_le fun z => by
    obtain ⟨i, hi⟩ := hf
    have := interp (pts.filter fun y => decide (ev f y = 0)) f 0 m (by omega) (pn.filter _) (fun y hy => pb y (List.mem_filter.mp hy).1) (fun y hy => by
      have : ev f y = 0 := by simpa using (List.mem_filter.mp hy).2
      rw [this]; simp) i
    omega
  refine ⟨(pts.filter fun y => !decide (ev f y = 0)).take m, by rw [List.length_take]; omega, (pn.filter _).sublist (List.take_sublist _ _), fun y hy => pb y (List.mem_filter.mp (List.mem_of_mem_take hy)).1, fun y hy => ?_⟩
  simpa using (List.mem_filter.mp (List.mem_of_mem_take hy)).2
def fb (A m : Nat) : Nat := A * (1 + m) ^ m * (3 * (1 + m)) ^ m
theorem fac_bd {f g : Po} {A m : Nat} (hf : NZ f) (hm : f.length ≤ m) (gm : g.length ≤ m) (hA : ∀ i, (co f i).natAbs ≤ A) (hd : Dv g f) (i : Nat) : (co g i).natAbs ≤ fb A m := by
  obtain ⟨ys, yl, yn, yb, y0⟩ := places hf hm
  obtain ⟨w, hw⟩ := hd
  have := interp ys g (A * (1 + m) ^ m) m (by omega) yn yb (fun y hy => by
    have h1 := ev_bd (yb y hy) f hA
    have h2 : (ev g y).natAbs ≤ (ev f y).natAbs := by
      have hne := y0 y hy
      rw [hw] at hne ⊢
      rw [Int.natAbs_mul]
      exact Nat.le_mul_of_pos_right _ (Nat.pos_of_ne_zero fun z => hne (by rw [Int.natAbs_eq_zero.mp z]; simp))
    have h3 : A * (1 + m) ^ f.length ≤ A * (1 + m) ^ m := Nat.mul_le_mul_left _ (Nat.pow_le_pow_right (by omega) hm)
    omega) i
  rw [yl] at this
  exact this
/-! ### more things than places -/
theorem pig : ∀ (K : Nat) (f : Nat → Nat) (M : Nat), (∀ i, i < M → f i < K) → K < M → ∃ i j, i < j ∧ j < M ∧ f i = f j
  | 0, f, M, h, hM => absurd (h 0 (by omega)) (by omega)
  | K + 1, f, M, h, hM => by
    by_cases z : ∃ i, i < M - 1 ∧ f i = f (M - 1)
    · obtain ⟨i, a, b⟩ := z
      exact ⟨i, M - 1, a, by omega, b⟩
    · have nz : ∀ i, i < M - 1 → f i ≠ f (M - 1) := fun i a b => z ⟨i, a, b⟩
      have hv := h (M - 1) (by omega)
      obtain ⟨i, j, a, b, c⟩ := pig K (fun i => if f i = K then f (M - 1) else f i) (M - 1) (fun i hi => by
        have h1 := h i (by omega)
        have h2 := nz i hi
        show (if f i = K then f (M - 1) else f i) < K
        split <;> omega) (by omega)
      have n1 := nz i (by omega)
      have n2 := nz j b
      refine ⟨i, j, a, by omega, ?_⟩
      split at c <;> split at c <;> omega
def code (Q : Nat) : Nat → (Nat → Nat) → Nat
  | 0, _ => 0
  | n + 1, v => code Q n v + v n * Q ^ n
theorem code_lt {Q : Nat} {v : Nat → Nat} : ∀ n, (∀ i, i < n → v i < Q) → code Q n v < Q ^ n
  | 0, _ => by simp [code]
  | n + 1, h => by
    have ih := code_lt n fun i hi => h i (by omega)
    have hn := h n (by omega)
    show code Q n v + v n * Q ^ n < Q ^ (n + 1)
    have := Nat.mul_le_mul_right (Q ^ n) (show v n + 1 ≤ Q by omega)
    rw [Nat.pow_succ, Nat.mul_comm (Q ^ n) Q]
    rw [Nat.add_mul] at this
    omega
theorem code_inj {Q : Nat} {v w : Nat → Nat} : ∀ n, (∀ i, i < n → v i < Q) → (∀ i, i < n → w i < Q) → code Q n v = code Q n w → ∀ i, i < n → v i = w i
  | 0, _, _, _, i, hi => by omega
  | n + 1, hv, hw, e, i, hi => by
    have a := code_lt n fun i hi => hv i (by omega)
    have b := code_lt n fun i hi => hw i (by omega)
    have e' : code Q n v + v n * Q ^ n = code Q n w + w n * Q ^ n := e
    have ev : v n = w n := by
      rcases Nat.lt_trichotomy (v n) (w n) with z | z | z
      · have := Nat.mul_le_mul_right (Q ^ n) (show v n + 1 ≤ w n by omega)
        rw [Nat.add_mul] at this; omega
      · exact z
      · have := Nat.mul_le_mul_right (Q ^ n) (show w n + 1 ≤ v n by omega)
        rw [Nat.add_mul] at this; omega
    by_cases q : i = n
    · subst q; exact ev
    · rw [ev] at e'
      exact code_inj n (fun i hi => hv i (by omega)) (fun i hi => hw i (by omega)) (by omega) i (by omega)
/-- two numbers of the same digits -/
theorem digit_inj {B : Nat} (hB : 0 < B) : ∀ (n a b : Nat), a < B ^ n → b < B ^ n → (∀ i, i < n → a / B ^ i % B = b / B ^ i % B) → a = b
  | 0, a, b, ha, hb, _ => by simp at ha hb; omega
  | n + 1, a, b, ha, hb, h => by
    have h0 := h 0 (by omega)
    simp at h0
    have e := digit_inj hB n (a / B) (b / B) (Nat.div_lt_of_lt_mul (by rw [Nat.mul_comm, ← Nat.pow_succ]; exact ha)) (Nat.div_lt_of_lt_mul (by rw [Nat.mul_comm, ← Nat.pow_succ]; exact hb)) fun i hi => by
      have := h (i + 1) (by omega)
      rw [Nat.pow_succ, Nat.mul_comm, ← Nat.div_div_eq_div_mul, ← Nat.div_div_eq_div_mul] at this
      exact this
    rw [← Nat.div_add_mod a B, ← Nat.div_add_mod b B, e, h0]
theorem mul_bd {P Q : Nat} {q : Po} (hq : ∀ i, (co q i).natAbs ≤ Q) : ∀ (p : Po), (∀ i, (co p i).natAbs ≤ P) → ∀ i, (co (mul p q) i).natAbs ≤ p.length * (P * Q)
  | [], _, i => by rw [show mul [] q = [] from rfl, co_nil]; simp
  | a :: r, h, i => by
    have ih := mul_bd hq r fun i => h (i + 1)
    show (co (add (smul a q) (0 :: mul r q)) i).natAbs ≤ (r.length + 1) * (P * Q)
    rw [co_add, co_smul, Nat.add_mul]
    have h1 : (a * co q i).natAbs ≤ P * Q := by rw [Int.natAbs_mul]; exact Nat.mul_le_mul (h 0) (hq i)
    cases i with
    | zero => rw [co_zero]; omega
    | succ i => rw [co_succ]; have := ih i; omega
end SerM

namespace SerM
/-- the digits of k, from the place i on, n of them, as a polynomial -/
def dgp (B k i n : Nat) : Po := (List.range n).map fun j => ((k / B ^ (i + j) % B : Nat) : Int)
theorem dgp_len (B k i n : Nat) : (dgp B k i n).length = n := by simp [dgp]
theorem dgp_co {B k i n j : Nat} (h : j < n) : co (dgp B k i n) j = ((k / B ^ (i + j) % B : Nat) : Int) := by
  unfold co dgp
  rw [List.getD_eq_getElem?_getD, List.getElem?_map, List.getElem?_range h]; rfl
theorem dgp_bd {B k i n : Nat} (hB : 0 < B) (j : Nat) : (co (dgp B k i n) j).natAbs ≤ B := by
  by_cases h : j < n
  · rw [dgp_co h]
    have := Nat.mod_lt (k / B ^ (i + j)) hB
    omega
  · rw [co_len (by rw [dgp_len]; omega)]; exact Nat.zero_le _
theorem dv_of_prod {a b s t : Po} (b1 : ev b 0 = 1) (hc : Cop a b) (h : ∀ x, ev s x * ev a x = ev b x * ev t x) : Dv b s := by
  obtain ⟨σ, τ, r, r0, hr⟩ := bez b1 hc
  exact dv_whole r0 b1 (w := add (mul σ t) (mul τ s)) fun x => by
    rw [ev_add, ev_mul, ev_mul, ← hr x]
    have := h x
    grind
theorem dv_short {b s : Po} {db : Nat} {c : Int} (lb : Lead b db c) (sl : s.length ≤ db) (h : Dv b s) : ∀ i, co s i = 0 := by
  obtain ⟨w, hw⟩ := h
  intro i
  apply Classical.byContradiction
  intro ne
  have hs : NZ s := ⟨i, ne⟩
  have hwz : NZ w := by
    apply Classical.byContradiction
    intro z
    have : ∀ i, co w i = 0 := fun i => Classical.byContradiction fun k => z ⟨i, k⟩
    exact ne (by rw [co_of_ev (q := []) 0 (fun x _ => by rw [hw, zero_ev this]; show _ * (0 : Int) = 0; omega) i, co_nil])
  obtain ⟨n, d, lw, _⟩ := lead_of hwz
  obtain ⟨m, e, ls, hm⟩ := lead_of hs
  have lm := lead_mul lb lw
  have ce := co_of_ev (p := s) (q := mul b w) 0 fun x _ => by rw [hw, ev_mul]
  have := (lead_uniq ls ⟨(ce _).trans lm.at_, lm.ne, fun i hi => (ce i).trans (lm.hi i hi)⟩).1
  omega
/-- a small number that both values must share -/
theorem small_r {a b : Po} {da db A : Nat} {c : Int} (b1 : ev b 0 = 1) (hc : Cop a b) (la : a.length ≤ da + 1) (lb : Lead b db c) (lb' : b.length ≤ db + 1) (hA : 1 ≤ A) (ha : ∀ i, (co a i).natAbs ≤ A) (hb : ∀ i, (co b i).natAbs ≤ A) :
    ∃ (s t : Po) (r : Int), r ≠ 0 ∧ (∀ x, ev s x * ev a x + ev t x * ev b x = r) ∧ r.natAbs ≤ (2 * (da + db) * A + 1) ^ (da + db + 1) := by
  generalize hN : da + db = N
  by_cases N0 : N = 0
  · have : db = 0 := by omega
    subst this
    refine ⟨[], [1], 1, by decide, fun x => ?_, ?_⟩
    · have e := lead0 lb
      have c1 : c = 1 := by rw [← e 0]; exact b1
      rw [e, c1]
      show (0 : Int) * _ + (1 + x * 0) * 1 = 1
      omega
    · subst N0; simp
  generalize hT : 2 * N * A + 1 = T
  have T2 : 2 ≤ T := by have := Nat.mul_le_mul (show 1 ≤ N by omega) hA; rw [← hT, Nat.mul_assoc]; omega
  have hB : 0 < T ^ N := Nat.pow_pos (by omega)
  generalize hBe : T ^ N = B at hB
  let cb : Nat → Po := fun k => add (mul (dgp B k 0 db) a) (mul (dgp B k db da) b)
  have cbd : ∀ k i, (co (cb k) i).natAbs ≤ N * (B * A) := fun k i => by
    have h1 := mul_bd ha (dgp B k 0 db) (dgp_bd hB) i
    have h2 := mul_bd hb (dgp B k db da) (dgp_bd hB) i
    rw [dgp_len] at h1 h2
    show (co (add _ _) i).natAbs ≤ _
    rw [co_add, ← hN, Nat.add_mul]
    omega
  have czero : ∀ k i, N ≤ i → co (cb k) i = 0 := fun k i hi => by
    show co (add _ _) i = 0
    rw [co_add, mul_len0 _ _ _ (by rw [dgp_len]; omega), mul_len0 _ _ _ (by rw [dgp_len]; omega)]; rfl
  generalize hZ : N * (B * A) = Z at cbd
  have Zb : 2 * Z + 1 ≤ T * B := by
    have e : T * B = 2 * Z + B := by rw [← hT, ← hZ]; grind
    omega
  let v : Nat → Nat → Nat := fun k i => (co (cb k) (i + 1) + Z).toNat
  have vlt : ∀ k i, v k i < 2 * Z + 1 := fun k i => by
    have := cbd k (i + 1)
    show (co (cb k) (i + 1) + Z).toNat < _
    omega
  have room : (2 * Z + 1) ^ (N - 1) < B ^ N := by
    have h1 : (2 * Z + 1) ^ (N - 1) ≤ (T * B) ^ (N - 1) := Nat.pow_le_pow_left Zb _
    rw [Nat.mul_pow] at h1
    have h2 : T ^ (N - 1) < B := by rw [← hBe]; exact Nat.pow_lt_pow_right (by omega) (by omega)
    have h3 := Nat.mul_lt_mul_of_pos_right h2 (show 0 < B ^ (N - 1) from Nat.pow_pos hB)
    have h4 : B * B ^ (N - 1) = B ^ N := by
      rw [Nat.mul_comm, ← Nat.pow_succ]; congr 1; omega
    omega
  obtain ⟨i, j, ij, jM, e⟩ := pig _ (fun k => code (2 * Z + 1) (N - 1) (v k)) (B ^ N) (fun k _ => code_lt _ fun l _ => vlt k l) room
  have hv := code_inj _ (fun l _ => vlt i l) (fun l _ => vlt j l) e
  have hco : ∀ l, 1 ≤ l → co (cb i) l = co (cb j) l := fun l hl => by
    by_cases z : N ≤ l
    · rw [czero _ _ z, czero _ _ z]
    · have h1 := hv (l - 1) (by omega)
      have b1 := cbd i l
      have b2 := cbd j l
      have h2 : (co (cb i) (l - 1 + 1) + Z).toNat = (co (cb j) (l - 1 + 1) + Z).toNat := h1
      rw [show l - 1 + 1 = l by omega] at h2
      omega
  have hs : ∀ (p q : Po) l, co (add p (smul (-1) q)) l = co p l - co q l := fun p q l => by rw [co_add, co_smul]; omega
  have hes : ∀ (p q : Po) x, ev (add p (smul (-1) q)) x = ev p x - ev q x := fun p q x => by rw [ev_add, ev_smul]; omega
  have hcb : ∀ k x, ev (cb k) x = ev (dgp B k 0 db) x * ev a x + ev (dgp B k db da) x * ev b x := fun k x => by
    show ev (add _ _) x = _
    rw [ev_add, ev_mul, ev_mul]
  have hr : ∀ x, ev (add (dgp B i 0 db) (smul (-1) (dgp B j 0 db))) x * ev a x + ev (add (dgp B i db da) (smul (-1) (dgp B j db da))) x * ev b x = co (cb i) 0 - co (cb j) 0 := fun x => by
    rw [hes, hes]
    have h1 : ev (add (cb i) (smul (-1) (cb j))) x = ev [co (cb i) 0 - co (cb j) 0] x := ev_of_co (fun l => by
      rw [hs]
      cases l with
      | zero => rfl
      | succ l => rw [hco (l + 1) (by omega)]; show _ = co [] l; rw [co_nil]; omega) x
    rw [hes, hcb, hcb] at h1
    have h2 : ev [co (cb i) 0 - co (cb j) 0] x = co (cb i) 0 - co (cb j) 0 := by show _ + x * 0 = _; omega
    rw [h2] at h1
    grind
  refine ⟨_, _, _, fun r0 => ?_, hr, ?_⟩
  · rw [r0] at hr
    have slen : (add (dgp B i 0 db) (smul (-1) (dgp B j 0 db))).length ≤ db := by
      rw [add_len _ _ (by unfold smul; rw [List.length_map, dgp_len, dgp_len]; exact Nat.le_refl _), dgp_len]; exact Nat.le_refl _
    have d1 : Dv b (add (dgp B i 0 db) (smul (-1) (dgp B j 0 db))) := dv_of_prod (t := smul (-1) (add (dgp B i db da) (smul (-1) (dgp B j db da)))) b1 hc fun x => by
      have := hr x
      rw [ev_smul]
      grind
    have s0 := dv_short lb slen d1
    have t0 : ∀ l, co (add (dgp B i db da) (smul (-1) (dgp B j db da))) l = 0 := fun l => by
      have h1 : ∀ x, ev b x * ev (add (dgp B i db da) (smul (-1) (dgp B j db da))) x = ev b x * ev [] x := fun x => by
        have := hr x
        rw [zero_ev s0] at this
        show _ = _ * (0 : Int)
        grind
      rw [co_of_ev 0 (fun x _ => ev_cancel (nz_of1 b1) h1 x) l, co_nil]
    have : i = j := digit_inj hB N i j (by omega) jM fun l hl => by
      by_cases z : l < db
      · have := s0 l
        rw [hs, dgp_co z, dgp_co z] at this
        simp only [Nat.zero_add] at this
        omega
      · have := t0 (l - db)
        rw [hs, dgp_co (by omega), dgp_co (by omega), show db + (l - db) = l by omega] at this
        omega
    omega
  · have h1 := cbd i 0
    have h2 := cbd j 0
    rw [Nat.pow_succ, hBe, Nat.mul_comm B T]
    omega
end SerM

namespace SerM
theorem tm_smul {c : Int} (c0 : c ≠ 0) {g : Po} (h : Tm g) : Tm (smul c g) := fun ne => by
  have gn : g ≠ [] := fun z => ne (by rw [z]; rfl)
  have : (smul c g).getLast ne = c * g.getLast gn := List.getLast_map (f := fun x => c * x) (l := g) ne
  rw [this]
  exact fun z => (Int.mul_eq_zero.mp z).elim c0 (h gn)
/-- a great power is enough -/
theorem look_ends {Y R G : Nat} {one other g a b : Po} (hY : 2 ≤ Y) (tg : Tm g) (ta : Tm a) (tb : Tm b) (t1 : Tm one) (t2 : Tm other) (g1 : ev g 0 = 1) (b1 : ev b 0 = 1) (ho : ∀ x, ev one x = ev g x * ev a x) (hp : ∀ x, ev other x = ev g x * ev b x) (hG : ∀ i, (co g i).natAbs ≤ G)
    (hR : ∀ E : Nat, (E : Int) ∣ ev a (2 * Y) → (E : Int) ∣ ev b (2 * Y) → E ≤ R) (hRG : R * G < Y) : look Y one other = some (a, b) := by
  have hY' : 2 ≤ (Y : Int) := by omega
  have eD : Int.gcd (ev one (2 * Y)) (ev other (2 * Y)) = (ev g (2 * Y)).natAbs * Int.gcd (ev a (2 * Y)) (ev b (2 * Y)) := by
    rw [ho, hp, Int.gcd_mul_left]
  have hE := hR _ (Int.gcd_dvd_left (ev a (2 * Y)) (ev b (2 * Y))) (Int.gcd_dvd_right (ev a (2 * Y)) (ev b (2 * Y)))
  have eodd := gcd_odd (Y := Y) (one := a) b1
  unfold look
  generalize Int.gcd (ev a (2 * (Y : Int))) (ev b (2 * (Y : Int))) = E at *
  rw [eD]
  obtain ⟨σ, hσ, eσ⟩ : ∃ σ : Int, (σ = 1 ∨ σ = -1) ∧ ((ev g (2 * (Y : Int))).natAbs : Int) = σ * ev g (2 * (Y : Int)) := by
    rcases Int.natAbs_eq (ev g (2 * (Y : Int))) with z | z
    · exact ⟨1, .inl rfl, by omega⟩
    · exact ⟨-1, .inr rfl, by omega⟩
  have c0 : σ * (E : Int) ≠ 0 := by rcases hσ with rfl | rfl <;> omega
  have cast : (((ev g (2 * (Y : Int))).natAbs * E : Nat) : Int) = ev (smul (σ * E) g) (2 * (Y : Int)) := by
    rw [ev_smul, Int.natCast_mul, eσ]; grind
  have rng : ∀ i, -(Y : Int) < co (smul (σ * E) g) i ∧ co (smul (σ * E) g) i ≤ Y := fun i => by
    rw [co_smul]
    have h1 : (σ * (E : Int) * co g i).natAbs ≤ R * G := by
      rw [Int.natAbs_mul]
      refine Nat.mul_le_mul ?_ (hG i)
      rcases hσ with rfl | rfl <;> omega
    omega
  have dgs : digs (Y : Int) ((ev g (2 * (Y : Int))).natAbs * E) (((ev g (2 * (Y : Int))).natAbs * E : Nat) : Int) = smul (σ * E) g := by
    refine tm_ext (digs_tm hY' _ _ (by omega)) (tm_smul c0 tg) fun i => ?_
    have := digs_uniq hY' (smul (σ * E) g) ((ev g (2 * (Y : Int))).natAbs * E) rng (by rw [← cast]; omega) i
    rw [← cast] at this
    exact this
  have g0 : co g 0 = 1 := by rw [co0_ev]; exact g1
  rw [dgs, begun_ok (F := g) (c := σ * E) (by simp [smul]) c0 g0 fun i => co_smul _ _ _]
  simp only
  rw [quo_ok t1 tg g0 ta ho, quo_ok t2 tg g0 tb hp]
/-- the reduced form of a top and a bottom -/
structure Red (top bottom u v : Po) : Prop where
  tu : Tm u
  tv : Tm v
  v1 : ev v 0 = 1
  cop : Cop u v
  eq : ∀ x, ev u x * ev bottom x = ev top x * ev v x
theorem red_uniq {top bottom u v u' v' : Po} (b1 : ev bottom 0 = 1) (h : Red top bottom u v) (k : Red top bottom u' v') : u = u' ∧ v = v' := by
  have he : ∀ x, ev u x * ev v' x = ev u' x * ev v x := by
    have : ∀ x, ev bottom x * ev (mul u v') x = ev bottom x * ev (mul u' v) x := fun x => by
      rw [ev_mul, ev_mul]
      have h1 := h.eq x
      have h2 := k.eq x
      grind
    intro x
    have := ev_cancel (nz_of1 b1) this x
    rwa [ev_mul, ev_mul] at this
  obtain ⟨e1, e2⟩ := cop_uniq h.cop k.cop h.v1 k.v1 he
  exact ⟨tm_ext h.tu k.tu fun i => co_of_ev 0 (fun x _ => e1 x) i, tm_ext h.tv k.tv fun i => co_of_ev 0 (fun x _ => e2 x) i⟩
theorem dv_z : ∀ (k : Nat) {h l : Po}, ev h 0 = 1 → Dv h (zp k l) → Dv h l
  | 0, h, l, _, d => d
  | k + 1, h, l, h0, ⟨w, hw⟩ => by
    apply dv_z k h0
    have w0 : ev w 0 = 0 := by
      have := hw 0
      rw [h0] at this
      have e : ev (zp (k + 1) l) 0 = 0 := by show 0 + 0 * ev (zp k l) 0 = (0 : Int); omega
      omega
    have hwx : ∀ x, ev w x = x * ev w.tail x := fun x => by
      cases w with
      | nil => show (0 : Int) = x * 0; omega
      | cons c w =>
        have : c = 0 := by have : c + 0 * ev w 0 = 0 := w0; omega
        subst this
        show 0 + x * ev w x = x * ev w x
        omega
    have e1 : ∀ x, ev ([0, 1] : Po) x = x := fun x => by show 0 + x * (1 + x * 0) = x; grind
    refine ⟨w.tail, fun x => ?_⟩
    rw [← ev_mul]
    refine ev_cancel (p := [0, 1]) ⟨1, by decide⟩ (fun x => ?_) x
    have h1 := hw x
    have h2 : ev (zp (k + 1) l) x = x * ev (zp k l) x := by show 0 + x * ev (zp k l) x = _; omega
    rw [e1, ev_mul, ← h2, h1, hwx x]
    grind
theorem cop_z {k : Nat} {l r : Po} (h : Cop l r) : Cop (zp k l) r := fun f m c f0 lf d1 d2 => h f m c f0 lf (dv_z k f0 d1) d2
theorem cop_one {p : Po} : Cop p [1] := fun f m c f0 lf _ ⟨w, hw⟩ => by
  have e1 : ∀ x, ev ([1] : Po) x = 1 := fun x => by show 1 + x * 0 = (1 : Int); omega
  have w0 : ev w 0 = 1 := by have := hw 0; rw [f0, e1] at this; omega
  obtain ⟨n, d, lw, _⟩ := lead_of (nz_of1 w0)
  have lm := lead_mul lf lw
  have ce := co_of_ev (p := [1]) (q := mul f w) 0 fun x _ => by rw [hw, ev_mul]
  have l1 : Lead [1] 0 1 := ⟨rfl, by decide, fun i hi => by
    cases i with
    | zero => omega
    | succ i => exact co_nil i⟩
  have := (lead_uniq l1 ⟨(ce _).trans lm.at_, lm.ne, fun i hi => (ce i).trans (lm.hi i hi)⟩).1
  omega
theorem cop_const {a : Int} (a0 : a ≠ 0) {r : Po} : Cop [a] r := fun f m c f0 lf ⟨w, hw⟩ _ => by
  have e1 : ∀ x, ev ([a] : Po) x = a := fun x => by show a + x * 0 = a; omega
  have w0 : NZ w := by
    apply Classical.byContradiction
    intro z
    have : ∀ i, co w i = 0 := fun i => Classical.byContradiction fun k => z ⟨i, k⟩
    have h := hw 0
    rw [e1, zero_ev this] at h
    omega
  obtain ⟨n, d, lw, _⟩ := lead_of w0
  have lm := lead_mul lf lw
  have ce := co_of_ev (p := [a]) (q := mul f w) 0 fun x _ => by rw [hw, ev_mul]
  have l1 : Lead [a] 0 a := ⟨rfl, a0, fun i hi => by
    cases i with
    | zero => omega
    | succ i => exact co_nil i⟩
  have := (lead_uniq l1 ⟨(ce _).trans lm.at_, lm.ne, fun i hi => (ce i).trans (lm.hi i hi)⟩).1
  omega
/-- the branches of `reduced` -/
theorem red_nil {top bottom : Po} (h : trim top = []) : Red top bottom [] [1] :=
  ⟨fun z => absurd rfl z, fun _ => (by show (1 : Int) ≠ 0; decide), rfl, cop_one, fun x => by
    show (0 : Int) * _ = _
    rw [← trim_ev top, h]
    show 0 * ev bottom x = 0 * _
    omega⟩
theorem trim_one {bottom : Po} (b1 : ev bottom 0 = 1) (h : (trim bottom).length = 1) : trim bottom = [1] := by
  have e := trim_ev bottom 0
  rw [b1] at e
  match trim bottom, h, e with
  | [a], _, e => have : a + 0 * 0 = 1 := e; rw [show a = 1 by omega]
theorem red_plain {top bottom : Po} (b1 : ev bottom 0 = 1) (h : (trim bottom).length = 1) : Red top bottom (trim top) (trim bottom) := by
  have e := trim_one b1 h
  refine ⟨trim_tm _, trim_tm _, by rw [trim_ev]; exact b1, by rw [e]; exact cop_one, fun x => by rw [trim_ev, trim_ev]⟩
theorem red_mono {top bottom : Po} {k : Nat} {a : Int} (b1 : ev bottom 0 = 1) (a0 : a ≠ 0) (h : trim top = zp k [a]) : Red top bottom (trim top) (trim bottom) :=
  ⟨trim_tm _, trim_tm _, by rw [trim_ev]; exact b1, by rw [h]; exact cop_z (cop_const a0), fun x => by rw [trim_ev, trim_ev]⟩
theorem zp_tm : ∀ (k : Nat) {l : Po}, Tm l → l ≠ [] → Tm (zp k l)
  | 0, l, h, _ => h
  | k + 1, l, h, n => fun ne => by
    have : zp k l ≠ [] := by
      cases k with
      | zero => exact n
      | succ k => exact List.cons_ne_nil _ _
    show (0 :: zp k l).getLast _ ≠ 0
    rw [List.getLast_cons this]
    exact zp_tm k h n this
theorem red_look {top bottom rest l r : Po} {k Y n : Nat} (b1 : ev bottom 0 = 1) (h : trim top = zp k rest) (tr : Tm rest) (tl : Tm l) (ln : l ≠ []) (t2 : Tm r) (hY : 2 ≤ Y) (dom : Dom rest n (2 * Y) ∨ Dom (trim bottom) n (2 * Y)) (hl : look Y rest (trim bottom) = some (l, r)) : Red top bottom (zp k l) r := by
  have b1' : ev (trim bottom) 0 = 1 := by rw [trim_ev]; exact b1
  obtain ⟨c, r1, e⟩ := look_sound hY b1' tr (trim_tm _) dom hl
  refine ⟨zp_tm k tl ln, t2, r1, cop_z c, fun x => ?_⟩
  have h1 := e x
  have h2 := trim_ev top x
  rw [h, ev_zp] at h2
  rw [trim_ev] at h1
  rw [ev_zp, ← h2]
  grind
/-- the loop ends -/
theorem loop_ends {α : Type} {f : Nat → Option α} {bits Bd : Nat} (hb : 1 ≤ bits) (h : ∀ b, Bd ≤ b → f b ≠ none) : ∃ k, f (bits * 2 ^ k) ≠ none ∧ (∀ j, j < k → f (bits * 2 ^ j) = none) ∧ (k = 0 ∨ bits * 2 ^ (k - 1) < Bd) := by
  obtain ⟨k, hk, hl⟩ := least (P := fun k => f (bits * 2 ^ k) ≠ none) ⟨Bd, h _ (by
    have h1 : Bd < 2 ^ Bd := Nat.lt_two_pow_self
    have h2 := Nat.le_mul_of_pos_left (2 ^ Bd) (show 0 < bits by omega)
    omega)⟩
  have hn : ∀ j, j < k → f (bits * 2 ^ j) = none := fun j hj => Classical.byContradiction fun z => hl j hj z
  refine ⟨k, hk, hn, ?_⟩
  by_cases k0 : k = 0
  · exact .inl k0
  · exact .inr (Nat.lt_of_not_le fun z => h _ z (hn (k - 1) (by omega)))
end SerM

namespace SerM
/-- the lists that a look gives don't end with 0 -/
theorem quo_tm {row F q : Po} (hr : Tm row) (rn : row ≠ []) (hF : Tm F) (F1 : F ≠ []) (h : quo row F = some q) : Tm q ∧ q ≠ [] := by
  have a1 : F.length ≠ 0 := fun z => F1 (List.length_eq_zero_iff.mp z)
  have a3 : row.length ≠ 0 := fun z => rn (List.length_eq_zero_iff.mp z)
  obtain ⟨he, hl⟩ := quo_some h (by omega)
  have lr := tm_lead hr rn
  have lF := tm_lead hF F1
  have qz : NZ q := by
    apply Classical.byContradiction
    intro z
    have q0 : ∀ i, co q i = 0 := fun i => Classical.byContradiction fun k => z ⟨i, k⟩
    exact lr.ne (by
      rw [← lr.at_, co_of_ev (q := []) 0 (fun x _ => by rw [he, zero_ev q0]; show _ * (0 : Int) = 0; omega) _, co_nil])
  obtain ⟨n, c, lq, nl⟩ := lead_of qz
  have lm := lead_mul lF lq
  have ce := co_of_ev (p := row) (q := mul F q) 0 fun x _ => by rw [he, ev_mul]
  have := (lead_uniq lr ⟨(ce _).trans lm.at_, lm.ne, fun i hi => (ce i).trans (lm.hi i hi)⟩).1
  have qn : q ≠ [] := fun z => by rw [z] at nl; simp at nl
  refine ⟨fun ne => ?_, qn⟩
  have e : q.getLast ne = co q n := by
    unfold co
    rw [List.getLast_eq_getElem, List.getD_eq_getElem?_getD, List.getElem?_eq_getElem nl]
    show _ = q[n]
    congr 1
    omega
  rw [e, lq.at_]; exact lq.ne
theorem look_tm {Y : Nat} {one other l r : Po} (hY : 2 ≤ Y) (o1 : ev other 0 = 1) (ht1 : Tm one) (n1 : one ≠ []) (ht2 : Tm other) (h : look Y one other = some (l, r)) : Tm l ∧ l ≠ [] ∧ Tm r := by
  unfold look at h
  have godd := gcd_odd (Y := Y) (one := one) o1
  generalize Int.gcd (ev one (2 * (Y : Int))) (ev other (2 * (Y : Int))) = D at *
  have hY' : 2 ≤ (Y : Int) := by omega
  have pe := digs_ev hY' D (D : Int) (by omega)
  have pt := digs_tm hY' D (D : Int) (by omega)
  generalize digs (Y : Int) D (D : Int) = p at *
  have p0 : co p 0 ≠ 0 := fun z => by
    obtain ⟨k, hk⟩ := ev_mod (p := p) (2 * (Y : Int))
    rw [pe, z, Int.mul_assoc] at hk
    omega
  have n2 : other ≠ [] := fun z => by rw [z] at o1; exact absurd o1 (by decide)
  cases hb : begun p with
  | none => rw [hb] at h; cases h
  | some F =>
    rw [hb] at h
    obtain ⟨hF, F0, Fl⟩ := begun_some p0 hb
    have Fn : F ≠ [] := fun z => by rw [z, co_nil] at F0; omega
    have pn : p ≠ [] := fun z => p0 (by rw [z, co_nil])
    have pl := (tm_lead pt pn)
    have Ft : Tm F := fun ne => by
      have e : F.getLast ne = co F (p.length - 1) := by
        have hlt : p.length - 1 < F.length := by
          have : p.length ≠ 0 := fun z => pn (List.length_eq_zero_iff.mp z)
          omega
        unfold co
        rw [List.getLast_eq_getElem, List.getD_eq_getElem?_getD, List.getElem?_eq_getElem hlt]
        show _ = F[p.length - 1]
        congr 1
        omega
      rw [e]
      intro z
      exact pl.ne (by rw [← pl.at_, hF, z]; simp)
    simp only at h
    cases hq1 : quo one F with
    | none => rw [hq1] at h; cases h
    | some l' =>
      cases hq2 : quo other F with
      | none => rw [hq1, hq2] at h; cases h
      | some r' =>
        rw [hq1, hq2] at h
        simp only [Option.some.injEq, Prod.mk.injEq] at h
        obtain ⟨rfl, rfl⟩ := h
        obtain ⟨a1, a2⟩ := quo_tm ht1 n1 Ft Fn hq1
        exact ⟨a1, a2, (quo_tm ht2 n2 Ft Fn hq2).1⟩
/-! ### root_bits -/
def bl (v : Int) : Nat := if v = 0 then 0 else Nat.log2 v.natAbs + 1
theorem bl_lt (v : Int) : v.natAbs < 2 ^ bl v := by
  unfold bl
  split
  · rename_i h; subst h; decide
  · rename_i h; exact Nat.lt_log2_self
theorem bl_ge {v : Int} (h : v ≠ 0) : 2 ^ (bl v - 1) ≤ v.natAbs := by
  unfold bl
  rw [if_neg h]
  exact Nat.log2_self_le (by omega)
theorem roots_dom {row : Po} {n rb B : Nat} {c : Int} (l : Lead row n c) (hrb : ∀ j, 1 ≤ j → j ≤ n → (((bl (co row (n - j)) : Nat) : Int) - ((bl c : Nat) - 1)).fdiv j ≤ (rb : Int) - 2) (r2 : 2 ≤ rb) (hB : rb + 2 ≤ B) : Dom row n (2 ^ B) := by
  have hW : (2 : Nat) ^ B = 4 * 2 ^ (B - 2) := by
    have : B = (B - 2) + 2 := by omega
    rw [this, Nat.pow_add, Nat.mul_comm]; simp
  refine dom_of hW (Nat.pow_pos (by omega)) (by rw [l.at_]; exact l.ne) l.hi fun j hj => ?_
  have h := hrb (n - j) (by omega) (by omega)
  rw [show n - (n - j) = j by omega] at h
  have hd : 0 < ((n - j : Nat) : Int) := by omega
  have hb1 : 1 ≤ bl c := by unfold bl; rw [if_neg l.ne]; omega
  have key : bl (co row j) + (n - j) ≤ (bl c - 1) + (B - 2) * (n - j) := by
    generalize hd' : n - j = d at *
    rw [Int.fdiv_eq_ediv_of_nonneg _ (by omega)] at h
    have e1 := Int.emod_add_mul_ediv (((bl (co row j) : Nat) : Int) - ((bl c : Nat) - 1)) (d : Int)
    have e2 := Int.emod_lt_of_pos (((bl (co row j) : Nat) : Int) - ((bl c : Nat) - 1)) hd
    have e3 := Int.mul_le_mul_of_nonneg_left h (show 0 ≤ (d : Int) by omega)
    have e4 : (d : Int) * ((rb : Int) - 2) + 2 * d ≤ ((B - 2) * d : Nat) := by
      have h5 := Int.mul_le_mul_of_nonneg_left (show (rb : Int) ≤ ((B - 2 : Nat) : Int) by omega) (show 0 ≤ (d : Int) by omega)
      rw [Int.natCast_mul, Int.mul_sub]
      rw [Int.mul_comm (((B - 2 : Nat)) : Int) (d : Int)]
      omega
    generalize (B - 2) * d = Z at *
    omega
  have h1 := bl_lt (co row j)
  have h2 := bl_ge l.ne
  rw [l.at_]
  calc (co row j).natAbs * 2 ^ (n - j) ≤ 2 ^ bl (co row j) * 2 ^ (n - j) := Nat.mul_le_mul_right _ (by omega)
    _ = 2 ^ (bl (co row j) + (n - j)) := by rw [Nat.pow_add]
    _ ≤ 2 ^ ((bl c - 1) + (B - 2) * (n - j)) := Nat.pow_le_pow_right (by omega) key
    _ = 2 ^ (bl c - 1) * (2 ^ (B - 2)) ^ (n - j) := by rw [Nat.pow_add, Nat.pow_mul]
    _ ≤ c.natAbs * (2 ^ (B - 2)) ^ (n - j) := Nat.mul_le_mul_right _ h2
end SerM

namespace SerM
theorem dv_len {a P : Po} (ta : Tm a) (hP : NZ P) (h : Dv a P) : a.length ≤ P.length := by
  by_cases an : a = []
  · subst an; exact Nat.zero_le _
  · have l := tm_lead ta an
    apply Classical.byContradiction
    intro z
    obtain ⟨i, hi⟩ := hP
    exact hi (dv_short l (by omega) h i)
theorem dv_trim {g f : Po} (h : Dv g f) : Dv (trim g) f := by
  obtain ⟨w, hw⟩ := h
  exact ⟨w, fun x => by rw [trim_ev]; exact hw x⟩
theorem cop_trim {a b : Po} (h : Cop a b) : Cop (trim a) (trim b) := fun f m c f0 lf ⟨u, hu⟩ ⟨v, hv⟩ =>
  h f m c f0 lf ⟨u, fun x => by rw [← trim_ev]; exact hu x⟩ ⟨v, fun x => by rw [← trim_ev]; exact hv x⟩
def rb2 (A m : Nat) : Nat := (2 * (2 * m) * fb A m + 1) ^ (2 * m + 1)
/-- how great a power is enough; P / Q is the same series in small numbers -/
theorem look_bd {one other P Q : Po} {A m A2 m2 Y : Nat} (t1 : Tm one) (n1 : one ≠ []) (t2 : Tm other) (o1 : ev other 0 = 1) (hP : NZ P) (q1 : ev Q 0 = 1) (same : ∀ x, ev one x * ev Q x = ev P x * ev other x)
    (Pm : P.length ≤ m) (Qm : Q.length ≤ m) (PA : ∀ i, (co P i).natAbs ≤ A) (QA : ∀ i, (co Q i).natAbs ≤ A) (om : other.length ≤ m2) (oA : ∀ i, (co other i).natAbs ≤ A2) (hY : 2 ≤ Y) (hb : rb2 A m * fb A2 m2 < Y) : look Y one other ≠ none := by
  obtain ⟨g, a, b, g1, b1, ha, hbb, hc⟩ := gcd_ex other.length one other (fun i hi => co_len hi) o1
  obtain ⟨g', a', b', g1', b1', ha', hb', hc'⟩ := gcd_ex Q.length P Q (fun i hi => co_len hi) q1
  have gb : NZ (mul g g') := nz_of1 (by rw [ev_mul, g1, g1']; rfl)
  have cross : ∀ x, ev a x * ev b' x = ev a' x * ev b x := by
    have := ev_cancel (a := mul a b') (b := mul a' b) gb fun x => by
      rw [ev_mul, ev_mul, ev_mul]
      have h := same x
      rw [ha, hbb, ha', hb'] at h
      grind
    intro x
    have h := this x
    rwa [ev_mul, ev_mul] at h
  obtain ⟨ea, eb⟩ := cop_uniq hc hc' b1 b1' cross
  have daP : Dv (trim a) P := dv_trim ⟨g', fun x => by rw [ha', ea]; grind⟩
  have dbQ : Dv (trim b) Q := dv_trim ⟨g', fun x => by rw [hb', eb]; grind⟩
  have dgo : Dv (trim g) other := dv_trim ⟨b, fun x => hbb x⟩
  have hQ : NZ Q := nz_of1 q1
  have hO : NZ other := nz_of1 o1
  have la := dv_len (trim_tm a) hP daP
  have lb := dv_len (trim_tm b) hQ dbQ
  have lg := dv_len (trim_tm g) hO dgo
  have bA := fac_bd hP Pm (by omega) PA daP
  have bB := fac_bd hQ Qm (by omega) QA dbQ
  have bG := fac_bd hO om (by omega) oA dgo
  have b1t : ev (trim b) 0 = 1 := by rw [trim_ev]; exact b1
  have g1t : ev (trim g) 0 = 1 := by rw [trim_ev]; exact g1
  have bn : trim b ≠ [] := fun z => by rw [z] at b1t; exact absurd b1t (by decide)
  have bl0 : (trim b).length ≠ 0 := fun z => bn (List.length_eq_zero_iff.mp z)
  have f1 : 1 ≤ fb A m := by
    have := bB 0
    rw [co0_ev, b1t] at this
    exact this
  obtain ⟨s, t, r, r0, hr, rb⟩ := small_r (da := (trim a).length - 1) (db := (trim b).length - 1) b1t (cop_trim hc) (by omega) (tm_lead (trim_tm b) bn) (by omega) f1 bA bB
  have rb' : r.natAbs ≤ rb2 A m := by
    refine Nat.le_trans rb ?_
    have e1 : 2 * ((trim a).length - 1 + ((trim b).length - 1)) * fb A m + 1 ≤ 2 * (2 * m) * fb A m + 1 := by
      have := Nat.mul_le_mul_right (fb A m) (show 2 * ((trim a).length - 1 + ((trim b).length - 1)) ≤ 2 * (2 * m) by omega)
      omega
    exact Nat.le_trans (Nat.pow_le_pow_left e1 _) (Nat.pow_le_pow_right (by omega) (by omega))
  rw [look_ends (g := trim g) (a := trim a) (b := trim b) (R := rb2 A m) (G := fb A2 m2) hY (trim_tm g) (trim_tm a) (trim_tm b) t1 t2 g1t b1t (fun x => by rw [trim_ev, trim_ev]; exact ha x) (fun x => by rw [trim_ev, trim_ev]; exact hbb x) bG (fun E d1 d2 => ?_) hb]
  · exact fun z => by cases z
  · obtain ⟨u, hu⟩ := d1
    obtain ⟨v, hv⟩ := d2
    have h := hr (2 * (Y : Int))
    rw [hu, hv] at h
    have d : (E : Int) ∣ r := ⟨ev s (2 * (Y : Int)) * u + ev t (2 * (Y : Int)) * v, by rw [← h]; grind⟩
    have := Nat.le_of_dvd (show 0 < r.natAbs by omega) (Int.natAbs_dvd_natAbs.mpr d)
    simpa using Nat.le_trans this rb'
/-- the whole of `cancelled`: after k looks in vain, one that gives the reduced form -/
theorem canc_all {one other P Q : Po} {A m A2 m2 bits n Bd : Nat} (t1 : Tm one) (n1 : one ≠ []) (t2 : Tm other) (o1 : ev other 0 = 1) (hP : NZ P) (q1 : ev Q 0 = 1) (same : ∀ x, ev one x * ev Q x = ev P x * ev other x)
    (Pm : P.length ≤ m) (Qm : Q.length ≤ m) (PA : ∀ i, (co P i).natAbs ≤ A) (QA : ∀ i, (co Q i).natAbs ≤ A) (om : other.length ≤ m2) (oA : ∀ i, (co other i).natAbs ≤ A2)
    (b2 : 2 ≤ bits) (hBd : rb2 A m * fb A2 m2 < 2 ^ (Bd - 1)) (hdom : ∀ B, bits ≤ B → Dom one n (2 ^ B) ∨ Dom other n (2 ^ B)) :
    ∃ k l r, look (2 ^ (bits * 2 ^ k - 1)) one other = some (l, r) ∧ (∀ j, j < k → look (2 ^ (bits * 2 ^ j - 1)) one other = none) ∧ (k = 0 ∨ bits * 2 ^ (k - 1) < Bd + 2)
      ∧ Cop l r ∧ ev r 0 = 1 ∧ (∀ x, ev one x * ev r x = ev other x * ev l x) ∧ Tm l ∧ l ≠ [] ∧ Tm r := by
  obtain ⟨k, h1, h2, h3⟩ := loop_ends (f := fun b => look (2 ^ (b - 1)) one other) (bits := bits) (Bd := Bd + 2) (by omega) fun b hb => by
    have p2 : (2 : Nat) ^ 1 ≤ 2 ^ (b - 1) := Nat.pow_le_pow_right (by omega) (by omega)
    have p3 : (2 : Nat) ^ (Bd - 1) ≤ 2 ^ (b - 1) := Nat.pow_le_pow_right (by omega) (by omega)
    exact look_bd t1 n1 t2 o1 hP q1 same Pm Qm PA QA om oA p2 (by omega)
  cases e : look (2 ^ (bits * 2 ^ k - 1)) one other with
  | none => exact absurd e h1
  | some lr =>
    obtain ⟨l, r⟩ := lr
    have kb : bits ≤ bits * 2 ^ k := Nat.le_mul_of_pos_right _ (Nat.pow_pos (by omega))
    have p2 : (2 : Nat) ^ 1 ≤ 2 ^ (bits * 2 ^ k - 1) := Nat.pow_le_pow_right (by omega) (by omega)
    have p4 : 2 * 2 ^ (bits * 2 ^ k - 1) = 2 ^ (bits * 2 ^ k) := by
      rw [Nat.mul_comm, ← Nat.pow_succ]; congr 1; omega
    have dom := hdom (bits * 2 ^ k) kb
    rw [← p4] at dom
    obtain ⟨c1, c2, c3⟩ := look_sound p2 o1 t1 t2 dom e
    obtain ⟨d1, d2, d3⟩ := look_tm p2 o1 t1 n1 t2 e
    exact ⟨k, l, r, e, h2, h3, c1, c2, c3, d1, d2, d3⟩
end SerM

namespace SerM
theorem drop_z : ∀ (k : Nat) {P r Q o : Po}, ev o 0 = 1 → (∀ x, ev (zp k r) x * ev Q x = ev P x * ev o x) → ∀ x, ev r x * ev Q x = ev (P.drop k) x * ev o x
  | 0, P, r, Q, o, _, h => h
  | k + 1, P, r, Q, o, o1, h => by
    have P0 : ev P 0 = 0 := by
      have := h 0
      have e : ev (zp (k + 1) r) 0 = 0 := by show 0 + 0 * ev (zp k r) 0 = (0 : Int); omega
      rw [e, o1] at this
      omega
    have hP : ∀ x, ev P x = x * ev P.tail x := fun x => by
      cases P with
      | nil => show (0 : Int) = x * 0; omega
      | cons c w =>
        have : c = 0 := by have : c + 0 * ev w 0 = 0 := P0; omega
        subst this
        show 0 + x * ev w x = x * ev w x
        omega
    have e1 : ∀ x, ev ([0, 1] : Po) x = x := fun x => by show 0 + x * (1 + x * 0) = x; grind
    have ih := drop_z k (P := P.tail) (r := r) (Q := Q) (o := o) o1 fun x => by
      rw [← ev_mul, ← ev_mul]
      refine ev_cancel (p := [0, 1]) ⟨1, by decide⟩ (fun x => ?_) x
      have h1 := h x
      have h2 : ev (zp (k + 1) r) x = x * ev (zp k r) x := by show 0 + x * ev (zp k r) x = _; omega
      rw [hP, h2] at h1
      rw [e1, ev_mul, ev_mul]
      grind
    have e : P.drop (k + 1) = P.tail.drop k := by cases P <;> simp
    rw [e]; exact ih
theorem co_drop (P : Po) (k i : Nat) : co (P.drop k) i = co P (k + i) := by
  unfold co
  rw [List.getD_eq_getElem?_getD, List.getD_eq_getElem?_getD, List.getElem?_drop]
theorem red_of {top bottom P Q u v : Po} (q1 : ev Q 0 = 1) (b1 : ev bottom 0 = 1) (same : ∀ x, ev top x * ev Q x = ev P x * ev bottom x) (h : Red top bottom u v) : Red P Q u v :=
  ⟨h.tu, h.tv, h.v1, h.cop, by
    have : ∀ x, ev bottom x * ev (mul u Q) x = ev bottom x * ev (mul P v) x := fun x => by
      have h1 := h.eq x
      have h2 := same x
      rw [ev_mul, ev_mul]
      grind
    intro x
    have e := ev_cancel (nz_of1 b1) this x
    rwa [ev_mul, ev_mul] at e⟩
theorem red_dv {P Q u v : Po} (q1 : ev Q 0 = 1) (h : Red P Q u v) : Dv u P ∧ Dv v Q := by
  obtain ⟨g', a', b', g1', b1', ha', hb', hc'⟩ := gcd_ex Q.length P Q (fun i hi => co_len hi) q1
  have e : ∀ x, ev u x * ev b' x = ev a' x * ev v x := by
    have := ev_cancel (a := mul u b') (b := mul a' v) (nz_of1 g1') fun x => by
      have h1 := h.eq x
      rw [ha', hb'] at h1
      rw [ev_mul, ev_mul]
      grind
    intro x
    have h2 := this x
    rwa [ev_mul, ev_mul] at h2
  obtain ⟨e1, e2⟩ := cop_uniq h.cop hc' h.v1 b1' e
  exact ⟨⟨g', fun x => by rw [ha', e1]; grind⟩, ⟨g', fun x => by rw [hb', e2]; grind⟩⟩
theorem nz_of {p : Po} (t : Tm p) (n : p ≠ []) : NZ p := ⟨_, by rw [(tm_lead t n).at_]; exact (tm_lead t n).ne⟩
theorem red_small {P Q u v : Po} {A m : Nat} (q1 : ev Q 0 = 1) (h : Red P Q u v) (Pm : P.length ≤ m) (Qm : Q.length ≤ m) (PA : ∀ i, (co P i).natAbs ≤ A) (QA : ∀ i, (co Q i).natAbs ≤ A) :
    u.length ≤ m ∧ v.length ≤ m ∧ (∀ i, (co u i).natAbs ≤ fb A m) ∧ ∀ i, (co v i).natAbs ≤ fb A m := by
  obtain ⟨d1, d2⟩ := red_dv q1 h
  have hQ := nz_of1 q1
  have l2 := dv_len h.tv hQ d2
  have b2 := fac_bd hQ Qm (by omega) QA d2
  by_cases u0 : u = []
  · subst u0
    exact ⟨Nat.zero_le _, by omega, fun i => by rw [co_nil]; exact Nat.zero_le _, b2⟩
  · have hP : NZ P := Classical.byContradiction fun z => by
      have z' : ∀ i, co P i = 0 := fun i => Classical.byContradiction fun k => z ⟨i, k⟩
      have : ∀ x, ev u x = ev [] x := ev_cancel hQ fun x => by
        have h1 := h.eq x
        rw [zero_ev z'] at h1
        show _ = ev Q x * 0
        grind
      obtain ⟨i, hi⟩ := nz_of h.tu u0
      exact hi (by rw [co_of_ev 0 (fun x _ => this x) i, co_nil])
    have l1 := dv_len h.tu hP d1
    exact ⟨by omega, by omega, fac_bd hP Pm (by omega) PA d1, b2⟩
/-- the quotient of one and other, P / Q the same in small numbers -/
structure Sml (top bottom P Q : Po) (A m A2 m2 Bd : Nat) : Prop where
  b1 : ev bottom 0 = 1
  q1 : ev Q 0 = 1
  same : ∀ x, ev top x * ev Q x = ev P x * ev bottom x
  Pm : P.length ≤ m
  Qm : Q.length ≤ m
  PA : ∀ i, (co P i).natAbs ≤ A
  QA : ∀ i, (co Q i).natAbs ≤ A
  om : bottom.length ≤ m2
  oA : ∀ i, (co bottom i).natAbs ≤ A2
  bd : rb2 A m * fb A2 m2 < 2 ^ (Bd - 1)
theorem sml_canc {top bottom P Q rest : Po} {A m A2 m2 Bd k bits n : Nat} (S : Sml top bottom P Q A m A2 m2 Bd) (h : trim top = zp k rest) (tr : Tm rest) (rn : rest ≠ []) (b2 : 2 ≤ bits) (hdom : ∀ B, bits ≤ B → Dom rest n (2 ^ B) ∨ Dom (trim bottom) n (2 ^ B)) :
    ∃ j l r, look (2 ^ (bits * 2 ^ j - 1)) rest (trim bottom) = some (l, r) ∧ (∀ i, i < j → look (2 ^ (bits * 2 ^ i - 1)) rest (trim bottom) = none) ∧ (j = 0 ∨ bits * 2 ^ (j - 1) < Bd + 2) ∧ Red top bottom (zp k l) r := by
  have o1 : ev (trim bottom) 0 = 1 := by rw [trim_ev]; exact S.b1
  have same : ∀ x, ev rest x * ev Q x = ev (P.drop k) x * ev (trim bottom) x := drop_z k o1 fun x => by rw [← h, trim_ev, trim_ev]; exact S.same x
  have hP : NZ (P.drop k) := Classical.byContradiction fun z => by
    have z' : ∀ i, co (P.drop k) i = 0 := fun i => Classical.byContradiction fun k => z ⟨i, k⟩
    have : ∀ x, ev rest x = ev [] x := ev_cancel (nz_of1 S.q1) fun x => by
      have h1 := same x
      rw [zero_ev z'] at h1
      show _ = ev Q x * 0
      grind
    obtain ⟨i, hi⟩ := nz_of tr rn
    exact hi (by rw [co_of_ev 0 (fun x _ => this x) i, co_nil])
  obtain ⟨j, l, r, h1, h2, h3, c1, c2, c3, d1, d2, d3⟩ := canc_all (A := A) (m := m) (A2 := A2) (m2 := m2) tr rn (trim_tm bottom) o1 hP S.q1 same (by rw [List.length_drop]; have := S.Pm; omega) S.Qm (fun i => by rw [co_drop]; exact S.PA _) S.QA (Nat.le_trans (trim_len _) S.om) (fun i => by rw [trim_co]; exact S.oA i) b2 S.bd hdom
  refine ⟨j, l, r, h1, h2, h3, zp_tm k d1 d2, d3, c2, cop_z c1, fun x => ?_⟩
  have e1 := c3 x
  have e2 := trim_ev top x
  rw [h, ev_zp] at e2
  rw [trim_ev] at e1
  rw [ev_zp, ← e2]
  grind
end SerM
/-! ### // by any whole number but 0 -/
namespace L2
open PySem PySem.Spec PyProof.Rows
def CDivZ (_ j : Int) : Prop := j ≠ 0 ∧ j.natAbs.log2 < 9000
theorem op_fdivZ {X : Cx} : OpR X (binaryOp .FloorDiv) (rI CDivZ fun i j => .int (i.fdiv j)) := opI fun _ _ _ _ _ _ _ hc q => floordiv_int hc.1 q (.inl (PyProof.noPylong_of_log2 hc.2))
end L2
namespace Un
open PySem L2 TL
section
variable {P : Program} {w : World} {K : PySem.W.Frag} {mg : Str → Option Value} {base : Heap}
/-! ### polynomials of the program -/
abbrev iv (p : SerM.Po) : List V := p.map V.int
/-- a row: a list or a tuple of whole numbers -/
def RowV (K : PySem.W.Frag) (H : Hp) (x : V) (p : SerM.Po) : Prop := ∃ a, x = .ref a ∧ (SqL K H a (iv p) ∨ SqT K H a (iv p))
theorem RowV.len {H : Hp} {x : V} {p : SerM.Po} (h : RowV K H x p) : LenV K x H p.length := by
  obtain ⟨a, rfl, h | h⟩ := h
  · exact .inl ⟨_, h, by simp⟩
  · exact .inr ⟨_, h, by simp⟩
theorem iv_at {p : SerM.Po} {i : Nat} (h : i < p.length) : (iv p)[i]? = some (.int (SerM.co p i)) := by
  unfold SerM.co
  rw [List.getElem?_map, List.getD_eq_getElem?_getD, List.getElem?_eq_getElem h]; rfl
theorem RowV.ix {H : Hp} {x : V} {p : SerM.Po} {Q : VK} (h : RowV K H x p) {z : Int} {i : Nat} (hz : z = (i : Int)) (hi : i < p.length) (q : Q (.int (SerM.co p i)) H) : rIx K x (.int z) H Q := by
  have e := iv_at hi
  have ea : atI (iv p) z = some (.int (SerM.co p i)) := by
    rw [hz]; exact atI_nat e
  obtain ⟨a, rfl, h | h⟩ := h
  · exact .inl ⟨a, _, z, _, rfl, rfl, h, ea, q⟩
  · exact .inr (.inl ⟨a, _, z, _, rfl, rfl, h, ea, q⟩)
structure PolT (K : PySem.W.Frag) (w : World) (mg : Str → Option Value) : Prop where
  len : mg "len" = none
  list : mg "list" = none
  range : mg "range" = none
  enum : mg "enumerate" = none
  max : mg "max" = none
  min : mg "min" = none
  rev : mg "reversed" = none
  any : mg "any" = none
  gcd : mg "gcd" = some (.builtin "math.gcd")
  spare : ∃ t, mg "SPARE_BITS" = some (.int 32 t)
abbrev sTrimmed : Stmt := top 14
def spTrimmed (K : PySem.W.Frag) : Sp := fun vs H Q _ => ∃ (x : V) (p : SerM.Po), vs = [x] ∧ RowV K H x p ∧ p.length < 1000000 ∧ ∀ (b : Addr) (H' : Hp), Same H H' → H b = none → H' b = some (.lst (iv (SerM.trim p))) → Q (.ref b) H'
theorem scTrimmed : FnScope ["row", "length"] ["row"] (defScope sTrimmed) := ⟨rfl, rfl, rfl, by decide +kernel, rfl, by decide +kernel, by decide +kernel⟩
theorem cut_take {p : SerM.Po} {l : Nat} (h : l ≤ p.length) : cutV (iv p) none (some (l : Int)) = iv (p.take l) := by
  unfold cutV
  have e1 : HT.sIx (iv p).length 0 none = 0 := rfl
  have e2 : HT.sIx (iv p).length (iv p).length (some (l : Int)) = l := by
    rw [HT.sIx_nat, List.length_map]; omega
  rw [e1, e2, List.drop_zero, Nat.sub_zero]
  exact List.map_take.symm
theorem take_trim {p : SerM.Po} {l : Nat} (hl : l ≤ p.length) (h0 : ∀ i, l ≤ i → SerM.co p i = 0) (h : l = 0 ∨ SerM.co p (l - 1) ≠ 0) : p.take l = SerM.trim p := by
  have lt : (p.take l).length = l := by rw [List.length_take]; omega
  have co : ∀ i, i < l → SerM.co (p.take l) i = SerM.co p i := fun i hi => by
    unfold SerM.co
    rw [List.getD_eq_getElem?_getD, List.getD_eq_getElem?_getD, List.getElem?_take_of_lt hi]
  refine SerM.tm_ext (fun ne => ?_) (SerM.trim_tm p) fun i => ?_
  · have l0 : l ≠ 0 := fun z => ne (by subst z; rfl)
    have e : (p.take l).getLast ne = SerM.co (p.take l) (l - 1) := by
      unfold SerM.co
      rw [List.getLast_eq_getElem, List.getD_eq_getElem?_getD, List.getElem?_eq_getElem (by omega)]
      show _ = (p.take l)[l - 1]
      congr 1; omega
    rw [e, co _ (by omega)]
    rcases h with h | h
    · exact absurd h l0
    · exact h
  · rw [SerM.trim_co]
    by_cases hi : i < l
    · exact co i hi
    · rw [SerM.co_len (by omega), h0 i (by omega)]
theorem ok_trimmed {f : Addr} {fd : FuncData} (F : Fun K "trimmed" "trimmed" sTrimmed f fd) (T : PolT K w mg) : FnOk P w K mg base CX0 1 f fd ["row"] (spTrimmed K) := by
  refine F.ok scTrimmed (fun vs H Q E h => ?_) (fun cdv A outer s H vs Q E hr h => ?_)
  · obtain ⟨x, p, rfl, _⟩ := h
    rfl
  obtain ⟨x, p, rfl, R, hl, q⟩ := h
  refine ⟨_, (pss_cons (ps_set (i := 1) scTrimmed.nd rfl (by first | exact Or.inl rfl | exact Or.inr rfl) (pe_callB call_len (by rfl) T.len PySem.boot_len (pa_cons (pv 0) pa_nil)))
 (pss_cons (ps_while PassesOwn.never (PW.pt (pw_and (pt_cmpR op_gt (pv 1) pe_int (nomark _)) (pw_and1 (pt_cmpR op_eq (pe_ix ix_seq (pv 0) (pe_op op_sub (pv 1) pe_int) (fun _ _ => rfl)) pe_int (nomark _)))))
 (pss_one (ps_set (i := 1) scTrimmed.nd rfl (by first | exact Or.inl rfl | exact Or.inr rfl) (pe_op op_sub (pv 1) pe_int))))
 (pss_one (ps_ret (pe_callTy call_list_of (by rfl) T.list (by decide +kernel) (pa_cons (pe_slice (sl_list.or sl_tupA) (pv 0) po_none (po_some (pv 1))) pa_nil)))))), ?_⟩
  refine ⟨x, rfl, x, p.length, rfl, R.len, ?_⟩
  refine ⟨fun m σ H2 => ∃ l : Nat, σ = [some x, some (.int (l : Int))] ∧ H2 = H ∧ l ≤ p.length ∧ (∀ i, l ≤ i → SerM.co p i = 0) ∧ m = l, ⟨_, p.length, rfl, rfl, Nat.le_refl _, fun i hi => SerM.co_len hi, rfl⟩, ?_⟩
  rintro m σ H2 ⟨l, rfl, rfl, hlp, h0, rfl⟩
  have out : (m = 0 ∨ SerM.co p (m - 1) ≠ 0) → ∀ σ : L2.St, σ = [some x, some (.int (m : Int))] → tRet (tCB (fun xs H Q => ∃ p ys, xs = [V.ref p] ∧ (SqL K H p ys ∨ SqT K H p ys) ∧ ∀ (l : Addr), H l = none → Q (V.ref l) (upd H l (HO.lst ys)))
      (tCons (tSl (fun x lo hi H Q => rSlL K x lo hi H Q ∨ rSlA K x lo hi H Q) (tVar 0) tNoPart (tPart (tVar 1))) tNil)) { nx := fun x H' => Q V.non H', rt := Q } σ H2 := fun h σ hσ => by
    subst hσ
    have et := take_trim hlp h0 h
    have ec := cut_take hlp
    rw [et] at ec
    refine ⟨x, rfl, .int (m : Int), rfl, (m : Int), rfl, ?_⟩
    obtain ⟨a, rfl, R | R⟩ := R
    · refine .inl ⟨a, _, rfl, R, fun b hb => ?_⟩
      rw [ec]
      refine ⟨b, _, rfl, .inl (SqL.of upd_same), fun c hc => ?_⟩
      exact q c _ ((same_upd hb _).trans (same_upd hc _)) ((same_upd hb _).free hc) upd_same
    · refine .inr ⟨a, _, rfl, R, fun hw => ⟨a, _, rfl, .inr R, fun c hc => ?_⟩, fun _ b hb => ?_⟩
      · have hm : m = p.length := by
          have := hw.2
          rw [HT.sIx_nat, List.length_map] at this; omega
        rw [hm, List.take_of_length_le (Nat.le_refl _)] at et
        rw [← et] at q
        exact q c _ (same_upd hc _) hc upd_same
      · rw [ec]
        refine ⟨b, _, rfl, .inr (SqT.of upd_same), fun c hc => ?_⟩
        exact q c _ ((same_upd hb _).trans (same_upd hc _)) ((same_upd hb _).free hc) upd_same
  refine ⟨_, rfl, _, _, rfl, rfl, _, rfl, ?_⟩
  refine ite2 (fun c => ?_) (fun c => ?_)
  · have m1 : 0 < m := by have := of_decide_eq_true c; omega
    refine ⟨x, rfl, _, rfl, _, _, rfl, rfl, R.ix (i := m - 1) (by omega) (by omega) ?_⟩
    refine ⟨rfl, _, rfl, ?_⟩
    rw [dec_int]
    refine ite2 (fun c2 => ?_) (fun c2 => ?_)
    · have z : SerM.co p (m - 1) = 0 := eq_of_beq c2
      refine ⟨fun σ' H' => ∃ m', m' < m ∧ ∃ l : Nat, σ' = [some x, some (.int (l : Int))] ∧ H' = H2 ∧ l ≤ p.length ∧ (∀ i, l ≤ i → SerM.co p i = 0) ∧ m' = l, fun σ' H' h => h, ?_⟩
      refine ⟨_, rfl, _, _, rfl, rfl, ?_⟩
      refine ⟨m - 1, by omega, m - 1, ?_, rfl, by omega, fun i hi => ?_, rfl⟩
      · show [some x, some (V.int ((m : Int) - 1))] = _
        rw [show ((m : Int) - 1) = ((m - 1 : Nat) : Int) by omega]
      · by_cases e : i = m - 1
        · rw [e]; exact z
        · exact h0 i (by omega)
    · exact out (.inr fun z => c2 (by rw [z]; rfl)) _ rfl
  · have m0 : m = 0 := by
      apply Classical.byContradiction
      intro z
      exact c (decide_eq_true (by omega))
    exact out (.inl m0) _ rfl
end
end Un
namespace Un
open PySem L2 TL
section
variable {P : Program} {w : World} {K : PySem.W.Frag} {mg : Str → Option Value} {base : Heap}
theorem iv_get {p : SerM.Po} {i : Nat} {v : V} (h : (iv p)[i]? = some v) : i < p.length ∧ v = .int (SerM.co p i) := by
  have hi : i < p.length := by
    have := (List.getElem?_eq_some_iff.mp h).1
    rwa [List.length_map] at this
  rw [iv_at hi] at h
  exact ⟨hi, (Option.some.inj h).symm⟩
/-! ### order_of -/
abbrev sOrderOf : Stmt := top 15
def spOrderOf (K : PySem.W.Frag) : Sp := fun vs H Q _ => ∃ (a : Addr) (p : SerM.Po), vs = [.ref a] ∧ SqL K H a (iv p) ∧
  (∀ (k : Nat) (H' : Hp), Same H H' → k < p.length → SerM.co p k ≠ 0 → (∀ i, i < k → SerM.co p i = 0) → Q (.int (k : Int)) H') ∧ ((∀ i, SerM.co p i = 0) → ∀ H', Same H H' → Q .non H')
theorem scOrderOf : FnScope ["row", "k", "value"] ["row"] (defScope sOrderOf) := ⟨rfl, rfl, rfl, by decide +kernel, rfl, by decide +kernel, by decide +kernel⟩
theorem ok_orderOf {f : Addr} {fd : FuncData} (F : Fun K "order_of" "order_of" sOrderOf f fd) (T : PolT K w mg) : FnOk P w K mg base CX0 1 f fd ["row"] (spOrderOf K) := by
  refine F.ok scOrderOf (fun vs H Q E h => ?_) (fun cdv A outer s H vs Q E hr h => ?_)
  · obtain ⟨a, p, rfl, _⟩ := h
    rfl
  obtain ⟨a, p, rfl, R, q1, q2⟩ := h
  refine ⟨_, (pss_cons (ps_for PassesOwn.never rfl (pi_enum (by rfl) T.enum (pa_cons (pv 0) pa_nil)) (pg_tup (by rfl) (pgs_cons (pg_name (i := 1) scOrderOf.nd rfl (by first | exact Or.inl rfl | exact Or.inr rfl)) (pgs_cons (pg_name (i := 2) scOrderOf.nd rfl (by first | exact Or.inl rfl | exact Or.inr rfl)) pgs_nil)))
 (pss_one (ps_if (pt_cmpR op_ne (pv 2) pe_int (nomark _))
 (pss_one (ps_ret (pv 1)))
 pss_nil)))
 (pss_one (ps_ret pe_non))), ?_⟩
  refine ⟨_, rfl, a, _, rfl, R, ?_⟩
  refine for_it walk_enum (fun i σ H2 => (∃ v1 v2, σ = [some (.ref a), v1, v2]) ∧ Same H H2 ∧ ∀ j, j < i → SerM.co p j = 0) ⟨⟨_, _, rfl⟩, Same.refl H, fun j hj => absurd hj (Nat.not_lt_zero j)⟩ (fun i σ H2 _ h => h.2.1.seq R) ?_ ?_
  · rintro i v σ H2 H3 hi ⟨⟨v1, v2, rfl⟩, s2, hz⟩ ⟨t, x, z, rfl, ht, rfl, hx, hz'⟩
    cases hx
    obtain ⟨hi', rfl⟩ := iv_get hz'
    have s3 := s2.trans (same_upd ht (.tup [.int (i : Nat), .int (SerM.co p i)]))
    refine ⟨t, _, rfl, SqT.of upd_same, rfl, _, _, rfl, _, _, rfl, rfl, ?_⟩
    refine ⟨_, rfl, rfl, _, rfl, ?_⟩
    rw [dec_int]
    refine ite2 (fun c => ?_) (fun c => ?_)
    · refine ⟨_, rfl, q1 i _ s3 hi' (fun z => ?_) hz⟩
      rw [z] at c
      exact absurd c (by decide)
    · refine ⟨⟨_, _, rfl⟩, s3, fun j hj => ?_⟩
      by_cases e : j = i
      · rw [e]
        apply Classical.byContradiction
        intro z
        exact c (by simp [z])
      · exact hz j (by omega)
  · rintro σ H2 ⟨⟨v1, v2, rfl⟩, s2, hz⟩
    refine q2 (fun i => ?_) H2 s2
    by_cases hi : i < p.length
    · exact hz i (by rw [List.length_map]; exact hi)
    · exact SerM.co_len (by omega)
/-! ### value_at -/
abbrev sValueAt : Stmt := top 20
def spValueAt (K : PySem.W.Frag) : Sp := fun vs H Q _ => ∃ (a : Addr) (p : SerM.Po) (n c : Nat), vs = [.ref a, .int (n : Int)] ∧ SqL K H a (iv p) ∧ (∀ i, (SerM.co p i).natAbs < 2 ^ c) ∧ c + (n + 1) * p.length + n + 2 ≤ 2 ^ 27 ∧
  ∀ (H' : Hp), Same H H' → Q (.int (SerM.ev p (2 ^ n))) H'
theorem scValueAt : FnScope ["row", "bits", "value", "coefficient"] ["row", "bits"] (defScope sValueAt) := ⟨rfl, rfl, rfl, by decide +kernel, rfl, by decide +kernel, by decide +kernel⟩
theorem bits_le {i : Int} {k : Nat} (h : i.natAbs < 2 ^ k) : Builtin.Int.intBits i ≤ k + 1 := by
  unfold Builtin.Int.intBits
  split
  · omega
  · rename_i z
    have := (Nat.log2_lt (by intro e; exact z (by simpa using e))).mpr h
    omega
theorem ev_bits {p : SerM.Po} {n c : Nat} (h : ∀ i, (SerM.co p i).natAbs < 2 ^ c) : (SerM.ev p (2 ^ n)).natAbs < 2 ^ (c + (n + 1) * p.length + 1) := by
  have h1 := SerM.ev_bd (A := 2 ^ c) (L := 2 ^ n) (x := (2 : Int) ^ n) (by rw [Int.natAbs_pow]; exact Nat.le_refl _) p fun i => Nat.le_of_lt (h i)
  have h2 : (1 + 2 ^ n) ^ p.length ≤ (2 ^ (n + 1)) ^ p.length := Nat.pow_le_pow_left (by have := Nat.pow_pos (n := n) (show 0 < 2 by decide); rw [Nat.pow_succ]; omega) _
  have h3 := Nat.mul_le_mul_left (2 ^ c) h2
  rw [← Nat.pow_mul, ← Nat.pow_add] at h3
  have h4 : 2 ^ (c + (n + 1) * p.length) < 2 ^ (c + (n + 1) * p.length + 1) := Nat.pow_lt_pow_right (by decide) (by omega)
  omega
theorem ok_valueAt {f : Addr} {fd : FuncData} (F : Fun K "value_at" "value_at" sValueAt f fd) (T : PolT K w mg) : FnOk P w K mg base CX0 1 f fd ["row", "bits"] (spValueAt K) := by
  refine F.ok scValueAt (fun vs H Q E h => ?_) (fun cdv A outer s H vs Q E hr h => ?_)
  · obtain ⟨a, p, n, c, rfl, _⟩ := h
    rfl
  obtain ⟨a, p, n, c, rfl, R, hc, hb, q⟩ := h
  refine ⟨_, (pss_cons (ps_set (i := 2) scValueAt.nd rfl (by first | exact Or.inl rfl | exact Or.inr rfl) pe_int)
 (pss_cons (ps_for PassesOwn.never rfl (pi_reversed (by rfl) T.rev (pa_cons (pv 0) pa_nil)) (pg_name (i := 3) scValueAt.nd rfl (by first | exact Or.inl rfl | exact Or.inr rfl))
 (pss_one (ps_set (i := 2) scValueAt.nd rfl (by first | exact Or.inl rfl | exact Or.inr rfl) (pe_op op_add (pe_op op_shlN (pv 2) (pv 1)) (pv 3)))))
 (pss_one (ps_ret (pv 2))))), ?_⟩
  refine ⟨_, rfl, a, _, rfl, R, ?_⟩
  refine for_it (walk_rev (K := K)) (fun i σ H2 => (∃ v3, σ = [some (.ref a), some (.int (n : Int)), some (.int (SerM.ev (p.drop (p.length - i)) (2 ^ n))), v3]) ∧ H2 = H) ⟨⟨none, ?_⟩, rfl⟩ (fun i σ H2 _ h => by rw [h.2]; exact R) ?_ ?_
  · rw [Nat.sub_zero, List.drop_length]; rfl
  · rintro i v σ H2 H3 hi ⟨⟨v3, rfl⟩, rfl⟩ ⟨rfl, hx⟩
    rw [List.length_map] at hi hx
    obtain ⟨hj, rfl⟩ := iv_get hx
    have e1 : p.drop (p.length - (i + 1)) = SerM.co p (p.length - 1 - i) :: p.drop (p.length - i) := by
      have e2 : p.length - (i + 1) = p.length - 1 - i := by omega
      rw [e2, List.drop_eq_getElem_cons hj, show p.length - 1 - i + 1 = p.length - i by omega]
      congr 1
      unfold SerM.co
      rw [List.getD_eq_getElem?_getD, List.getElem?_eq_getElem hj]; rfl
    have dl : (p.drop (p.length - i)).length ≤ p.length := by rw [List.length_drop]; omega
    have cd : ∀ l, (SerM.co (p.drop (p.length - i)) l).natAbs < 2 ^ c := fun l => by
      have : SerM.co (p.drop (p.length - i)) l = SerM.co p (p.length - i + l) := by
        unfold SerM.co
        rw [List.getD_eq_getElem?_getD, List.getD_eq_getElem?_getD, List.getElem?_drop]
      rw [this]; exact hc _
    have hbit := bits_le (ev_bits (n := n) cd)
    have hm := Nat.mul_le_mul_left (n + 1) dl
    refine ⟨_, rfl, _, rfl, SerM.ev (p.drop (p.length - i)) (2 ^ n), n, rfl, rfl, ⟨by omega, ?_⟩, ?_⟩
    · generalize (n + 1) * (p.drop (p.length - i)).length = z1 at *
      generalize (n + 1) * p.length = z2 at *
      omega
    refine ⟨_, rfl, _, _, rfl, rfl, ⟨some (.int (SerM.co p (p.length - 1 - i))), ?_⟩, rfl⟩
    rw [e1]
    show [_, _, some (V.int (SerM.ev (p.drop (p.length - i)) (2 ^ n) * 2 ^ n + SerM.co p (p.length - 1 - i))), _] = _
    rw [show SerM.ev (SerM.co p (p.length - 1 - i) :: p.drop (p.length - i)) (2 ^ n) = SerM.ev (p.drop (p.length - i)) (2 ^ n) * 2 ^ n + SerM.co p (p.length - 1 - i) by
      show SerM.co p (p.length - 1 - i) + 2 ^ n * SerM.ev (p.drop (p.length - i)) (2 ^ n) = _
      rw [Int.mul_comm]; omega]
  · rintro σ H2 ⟨⟨v3, rfl⟩, rfl⟩
    rw [List.length_map, Nat.sub_self, List.drop_zero]
    exact ⟨_, rfl, q H2 (Same.refl H2)⟩
end
end Un
namespace Un
open PySem L2 TL
section
variable {P : Program} {w : World} {K : PySem.W.Frag} {mg : Str → Option Value} {base : Heap}
/-! ### digits_of -/
theorem dg_half {Y : Int} (hY : 2 ≤ Y) {r e : Int} (h : r = SerM.dg Y r + 2 * Y * e) : 2 * e.natAbs ≤ r.natAbs := by
  obtain ⟨a, b⟩ := SerM.dg_rng hY r
  have k : ∀ e : Int, 1 ≤ e → 2 * e + Y ≤ 2 * Y * e := fun e he => by
    have h1 := Int.mul_le_mul_of_nonneg_left he (show 0 ≤ Y by omega)
    have h2 := Int.mul_le_mul_of_nonneg_right hY (show 0 ≤ e by omega)
    rw [Int.mul_assoc]
    omega
  rcases Int.lt_trichotomy e 0 with z | z | z
  · have := k (-e) (by omega)
    simp only [Int.mul_neg] at this
    omega
  · omega
  · have := k e (by omega)
    omega
theorem digs_len {Y : Int} (hY : 2 ≤ Y) : ∀ (B n : Nat) (r : Int), r.natAbs < 2 ^ B → (SerM.digs Y n r).length ≤ B
  | B, 0, r, _ => Nat.zero_le _
  | B, n + 1, r, h => by
    by_cases r0 : r = 0
    · subst r0; rw [SerM.digs_zero]; exact Nat.zero_le _
    · obtain ⟨e, h1, h2⟩ := SerM.dg_next hY (r := r)
      have hh := dg_half hY h2
      cases B with
      | zero => simp at h; omega
      | succ B =>
        rw [Nat.pow_succ] at h
        have := digs_len hY B n e (by omega)
        simp only [SerM.digs, r0, if_false, h1, List.length_cons]
        omega
abbrev sDigitsOf : Stmt := top 21
def spDigitsOf (K : PySem.W.Frag) : Sp := fun vs H Q _ => ∃ (r : Int) (n B : Nat), vs = [.int r, .int ((n + 1 : Nat) : Int)] ∧ 1 ≤ n ∧ n < 134217727 ∧ r.natAbs < 2 ^ B ∧ B ≤ 1000000 ∧
  ∀ (m : Addr) (H' : Hp), Same H H' → H m = none → H' m = some (.lst (iv (SerM.digs (2 ^ n) r.natAbs r))) → Q (.ref m) H'
theorem scDigitsOf : FnScope ["number", "bits", "base", "made", "rest", "digit"] ["number", "bits"] (defScope sDigitsOf) := ⟨rfl, rfl, rfl, by decide +kernel, rfl, by decide +kernel, by decide +kernel⟩
theorem ok_digitsOf {f : Addr} {fd : FuncData} (F : Fun K "digits_of" "digits_of" sDigitsOf f fd) (T : PolT K w mg) : FnOk P w K mg base CX0 1 f fd ["number", "bits"] (spDigitsOf K) := by
  refine F.ok scDigitsOf (fun vs H Q E h => ?_) (fun cdv A outer s H vs Q E hr h => ?_)
  · obtain ⟨r, n, B, rfl, _⟩ := h
    rfl
  obtain ⟨r, n, B, rfl, n1, nb, hB, Bb, q⟩ := h
  have hY : (2 : Int) ≤ 2 ^ n := by
    have : (2 : Int) ^ n = ((2 ^ n : Nat) : Int) := by simp
    rw [this]
    have := Nat.pow_le_pow_right (show 0 < 2 by decide) n1
    omega
  have e2 : (2 : Int) ^ (n + 1) = 2 * 2 ^ n := by rw [Int.pow_succ, Int.mul_comm]
  have hsz : 1000000 < sizeLine := by decide
  refine ⟨_, (pss_cons (ps_set (i := 2) scDigitsOf.nd rfl (by first | exact Or.inl rfl | exact Or.inr rfl) (pe_op op_oneShl pe_int (pv 1)))
 (pss_cons (ps_set (i := 3) scDigitsOf.nd rfl (by first | exact Or.inl rfl | exact Or.inr rfl) (pe_lst pa_nil))
 (pss_cons (ps_set (i := 4) scDigitsOf.nd rfl (by first | exact Or.inl rfl | exact Or.inr rfl) (pv 0))
 (pss_cons (ps_while PassesOwn.never (pt_cmpR op_ne (pv 4) pe_int (nomark _))
 (pss_cons (ps_set (i := 5) scDigitsOf.nd rfl (by first | exact Or.inl rfl | exact Or.inr rfl) (pe_op op_andM (pv 4) (pe_op op_sub (pv 2) pe_int)))
 (pss_cons (ps_if (pt_cmpR op_gt (pv 5) (pe_op op_fdivW (pv 2) pe_int) (nomark _))
 (pss_one (ps_set (i := 5) scDigitsOf.nd rfl (by first | exact Or.inl rfl | exact Or.inr rfl) (pe_op op_sub (pv 5) (pv 2))))
 pss_nil)
 (pss_cons (ps_expr (pe_bm PySem.F.plainAttrs_list PySem.F.slot_list_append PySem.F.type_list_append mt_append (pv 3) (pa_cons (pv 5) pa_nil)))
 (pss_one (ps_set (i := 4) scDigitsOf.nd rfl (by first | exact Or.inl rfl | exact Or.inr rfl) (pe_op op_shrN (pe_op op_sub (pv 4) (pv 5)) (pv 1))))))))
 (pss_one (ps_ret (pv 3))))))), ?_⟩
  refine ⟨_, rfl, n + 1, rfl, rfl, (by omega), ?_⟩
  refine ⟨(by show 0 ≤ sizeLine; decide), fun m hm => ?_⟩
  refine ⟨_, rfl, ?_⟩
  refine ⟨fun k σ H2 => ∃ (v5 : Option V) (rest : Int) (acc : SerM.Po) (fu : Nat), σ = [some (.int r), some (.int ((n + 1 : Nat) : Int)), some (.int (2 ^ (n + 1))), some (.ref m), some (.int rest), v5] ∧ Same H H2 ∧ H2 m = some (.lst (iv acc)) ∧ rest.natAbs ≤ fu ∧ acc ++ SerM.digs (2 ^ n) fu rest = SerM.digs (2 ^ n) r.natAbs r ∧ k = rest.natAbs,
    ⟨_, none, r, [], r.natAbs, rfl, same_upd hm _, upd_same, Nat.le_refl _, rfl, rfl⟩, ?_⟩
  rintro k σ H2 ⟨v5, rest, acc, fu, rfl, s2, hm2, hfu, hd, rfl⟩
  refine ⟨_, rfl, rfl, _, rfl, ?_⟩
  rw [dec_int]
  refine ite2 (fun c => ?_) (fun c => ?_)
  · have r0 : rest ≠ 0 := fun z => by rw [z] at c; exact absurd c (by decide)
    obtain ⟨fu, rfl⟩ : ∃ f', fu = f' + 1 := ⟨fu - 1, by omega⟩
    obtain ⟨e, h1, h2⟩ := SerM.dg_next hY (r := rest)
    have hs := SerM.dg_small hY r0 h2
    have hdl := digs_len hY B r.natAbs r hB
    rw [← hd] at hdl
    simp only [SerM.digs, r0, if_false, h1] at hd hdl
    rw [List.length_append, List.length_cons] at hdl
    refine ⟨fun σ' H' => ∃ m', m' < rest.natAbs ∧ ∃ (v5 : Option V) (rest : Int) (acc : SerM.Po) (fu : Nat), σ' = [some (.int r), some (.int ((n + 1 : Nat) : Int)), some (.int (2 ^ (n + 1))), some (.ref m), some (.int rest), v5] ∧ Same H H' ∧ H' m = some (.lst (iv acc)) ∧ rest.natAbs ≤ fu ∧ acc ++ SerM.digs (2 ^ n) fu rest = SerM.digs (2 ^ n) r.natAbs r ∧ m' = rest.natAbs, fun σ' H' h => h, ?_⟩
    refine ⟨_, rfl, _, rfl, _, _, rfl, rfl, rest, n + 1, rfl, rfl, ?_⟩
    refine ⟨_, rfl, _, rfl, _, 2, rfl, rfl, ⟨by decide, by decide⟩, _, _, rfl, rfl, _, rfl, ?_⟩
    have eb : (2 : Int) ^ (n + 1) / 2 = 2 ^ n := by rw [e2]; omega
    rw [eb]
    have fin : ∀ H' : Hp, H' = upd H2 m (.lst (iv (acc ++ [SerM.dg (2 ^ n) rest]))) → ∃ m', m' < rest.natAbs ∧ ∃ (v5 : Option V) (rest' : Int) (acc : SerM.Po) (fu : Nat), [some (.int r), some (.int ((n + 1 : Nat) : Int)), some (.int (2 ^ (n + 1))), some (.ref m), some (.int e), some (.int (SerM.dg (2 ^ n) rest))] = [some (.int r), some (.int ((n + 1 : Nat) : Int)), some (.int (2 ^ (n + 1))), some (.ref m), some (.int rest'), v5] ∧ Same H H' ∧ H' m = some (.lst (iv acc)) ∧ rest'.natAbs ≤ fu ∧ acc ++ SerM.digs (2 ^ n) fu rest' = SerM.digs (2 ^ n) r.natAbs r ∧ m' = rest'.natAbs := fun H' hH => by
      subst hH
      refine ⟨_, hs, _, e, acc ++ [SerM.dg (2 ^ n) rest], fu, rfl, fun b o hb => ?_, upd_same, by omega, ?_, rfl⟩
      · rw [upd_ne (ne_of_none hb hm)]; exact s2 _ _ hb
      · rw [← hd]; simp
    have esh : (rest - SerM.dg (2 ^ n) rest) / 2 ^ (n + 1) = e := by rw [e2]; exact h1
    have eapp : iv acc ++ [V.int (SerM.dg (2 ^ n) rest)] = iv (acc ++ [SerM.dg (2 ^ n) rest]) := by simp [iv]
    refine ite2 (fun c2 => ?_) (fun c2 => ?_)
    · have edg : rest % 2 ^ (n + 1) - 2 ^ (n + 1) = SerM.dg (2 ^ n) rest := by
        have := of_decide_eq_true c2
        unfold SerM.dg
        rw [e2] at this ⊢
        rw [if_pos this]
      refine ⟨_, rfl, _, rfl, _, _, rfl, rfl, ?_⟩
      refine ⟨_, rfl, .inl ⟨rfl, _, SqL.of hm2⟩, _, rfl, m, _, _, rfl, rfl, hm2, (by rw [List.length_map]; omega), ?_⟩
      refine ⟨_, rfl, _, rfl, _, _, rfl, rfl, _, rfl, _, n + 1, rfl, rfl, ?_⟩
      have F2 := fin _ rfl
      rw [← eapp, ← esh, ← edg] at F2
      exact F2
    · have edg : rest % 2 ^ (n + 1) = SerM.dg (2 ^ n) rest := by
        unfold SerM.dg
        rw [e2] at c2 ⊢
        rw [if_neg (fun z => c2 (decide_eq_true z))]
      refine ⟨_, rfl, .inl ⟨rfl, _, SqL.of hm2⟩, _, rfl, m, _, _, rfl, rfl, hm2, (by rw [List.length_map]; omega), ?_⟩
      refine ⟨_, rfl, _, rfl, _, _, rfl, rfl, _, rfl, _, n + 1, rfl, rfl, ?_⟩
      have F2 := fin _ rfl
      rw [← eapp, ← esh, ← edg] at F2
      exact F2
  · have r0 : rest = 0 := by
      apply Classical.byContradiction
      intro z
      exact c (by simp [z])
    subst r0
    rw [SerM.digs_zero, List.append_nil] at hd
    rw [hd] at hm2
    exact ⟨_, rfl, q m H2 s2 hm hm2⟩
end
end Un
namespace Un
open PySem L2 TL
section
variable {P : Program} {w : World} {K : PySem.W.Frag} {mg : Str → Option Value} {base : Heap}
/-! ### begun_with_one -/
theorem fdiv_le {a b : Int} (b0 : b ≠ 0) : (a.fdiv b).natAbs ≤ a.natAbs + 2 := by
  have h1 := Int.emod_add_mul_ediv a b
  have h2 := Int.emod_nonneg a b0
  have h3 := Int.emod_lt a b0
  have hq : (a / b).natAbs ≤ a.natAbs + 1 := Nat.le_of_not_lt fun z => by
    have h4 := Nat.mul_le_mul_left b.natAbs (show a.natAbs + 2 ≤ (a / b).natAbs by omega)
    rw [← Int.natAbs_mul, Nat.mul_add] at h4
    have h5 := Nat.le_mul_of_pos_left a.natAbs (show 0 < b.natAbs by omega)
    omega
  rw [Int.fdiv_eq_ediv]
  split <;> omega
theorem any_not (g : Int → Bool) : ∀ l : List Int, (l.map fun v => !g v).any id = !(l.all g)
  | [] => rfl
  | a :: l => by
    rw [List.map_cons, List.any_cons, List.all_cons, any_not g l]
    cases g a <;> rfl
abbrev sBegunWithOne : Stmt := top 22
def spBegun (K : PySem.W.Frag) : Sp := fun vs H Q _ => ∃ (a : Addr) (p : SerM.Po) (c : Nat), vs = [.ref a] ∧ SqL K H a (iv p) ∧ p.length ≤ 1000000 ∧ SerM.co p 0 ≠ 0 ∧ (∀ i, (SerM.co p i).natAbs < 2 ^ c) ∧ c ≤ 9000 ∧
  (SerM.begun p = none → ∀ H', Same H H' → Q .non H') ∧ ∀ F, SerM.begun p = some F → ∀ (m : Addr) (H' : Hp), Same H H' → H m = none → H' m = some (.lst (iv F)) → Q (.ref m) H'
theorem scBegunWithOne : FnScope ["row", "first", "value"] ["row"] (defScope sBegunWithOne) := ⟨rfl, rfl, rfl, by decide +kernel, rfl, by decide +kernel, by decide +kernel⟩
theorem ok_begun {f : Addr} {fd : FuncData} (F : Fun K "begun_with_one" "begun_with_one" sBegunWithOne f fd) (T : PolT K w mg) : FnOk P w K mg base CX0 1 f fd ["row"] (spBegun K) := by
  refine F.ok scBegunWithOne (fun vs H Q E h => ?_) (fun cdv A outer s H vs Q E hr h => ?_)
  · obtain ⟨a, p, c, rfl, _⟩ := h
    rfl
  obtain ⟨a, p, c, rfl, R, hl, p0, hc, c9, q1, q2⟩ := h
  have pl : 0 < p.length := Nat.pos_of_ne_zero fun z => p0 (SerM.co_len (by omega))
  have lg : (SerM.co p 0).natAbs.log2 < 9000 := by
    have := (Nat.log2_lt (show (SerM.co p 0).natAbs ≠ 0 by omega)).mpr (hc 0)
    omega
  have hsz : 1000000 < sizeLine := by decide
  refine ⟨_, (pss_cons (ps_set (i := 1) scBegunWithOne.nd rfl (by first | exact Or.inl rfl | exact Or.inr rfl) (pe_ix ix_list (pv 0) pe_int (fun _ _ => rfl)))
 (pss_cons (ps_if (pt_val (pe_callB (cr_any rfl) (by rfl) T.any (by decide +kernel) (pa_cons (pe_lc (own := [("value", 2)]) (g := (gName 2)) rfl scBegunWithOne.nd (pi_list (pv 0)) (blkOk_by (own := [("value", 2)]) (N := ["row", "first", "value"]) (sc := defScope sBegunWithOne) (by decide +kernel)) (fun _ _ _ _ _ => (pg_name (i := 2) scBegunWithOne.nd rfl (Or.inl rfl) (Or.inr rfl))) (fun _ _ _ _ _ => pts_nil) (fun _ _ _ _ _ => (pe_cmpR op_ne (pe_op op_mulX (pe_op op_fdivZ (pv 2) (pv 1)) (pv 1)) (pv 2) (nomark _)))) pa_nil)))
 (pss_one (ps_ret pe_non))
 pss_nil)
 (pss_one (ps_ret (pe_lc (own := [("value", 2)]) (g := (gName 2)) rfl scBegunWithOne.nd (pi_list (pv 0)) (blkOk_by (own := [("value", 2)]) (N := ["row", "first", "value"]) (sc := defScope sBegunWithOne) (by decide +kernel)) (fun _ _ _ _ _ => (pg_name (i := 2) scBegunWithOne.nd rfl (Or.inl rfl) (Or.inr rfl))) (fun _ _ _ _ _ => pts_nil) (fun _ _ _ _ _ => (pe_op op_fdivZ (pv 2) (pv 1)))))))), ?_⟩
  refine ⟨_, rfl, a, _, 0, _, rfl, rfl, R, atI_nat (j := 0) (iv_at pl), ?_⟩
  refine ⟨_, rfl, a, rfl, ⟨_, R⟩, fun D hD => ?_⟩
  have s1 := same_upd hD (.lst [])
  refine lc_list (xs := iv p) (fun i H2 => Same H H2 ∧ H2 D = some (.lst (((p.take i).map fun v => !(v.fdiv (SerM.co p 0) * SerM.co p 0 == v)).map V.bl))) ⟨s1, by rw [upd_same]; rfl⟩ (fun i H2 _ h => h.1.seq R) (fun i x H2 hx ⟨s2, hD2⟩ => ?_) (fun H2 ⟨s2, hD2⟩ => ?_)
  · obtain ⟨hi, rfl⟩ := iv_get hx
    have b1 := bits_le (k := c + 2) (i := (SerM.co p i).fdiv (SerM.co p 0)) (by
      have h1 := fdiv_le (a := SerM.co p i) p0
      have h2 := hc i
      have h3 := Nat.pow_pos (n := c) (show 0 < 2 by decide)
      rw [Nat.pow_add]; omega)
    have b2 := bits_le (hc 0)
    refine ⟨rfl, _, rfl, _, rfl, _, _, rfl, rfl, ⟨p0, lg⟩, _, rfl, _, _, rfl, rfl, ?_, _, rfl, rfl, ?_⟩
    · show (_ : Int) + _ ≤ 134217728
      omega
    rw [dec_int]
    refine ⟨_, hD2, ?_, fun b o hb => ?_, ?_⟩
    · rw [List.length_map, List.length_map, List.length_take]; omega
    · rw [upd_ne (ne_of_none hb hD)]; exact s2 _ _ hb
    · rw [upd_same, List.take_add_one]
      have : p[i]? = some (SerM.co p i) := by
        unfold SerM.co
        rw [List.getD_eq_getElem?_getD, List.getElem?_eq_getElem hi]; rfl
      rw [this]
      simp
  · refine ⟨D, _, rfl, SqL.of hD2, _, rfl, ?_⟩
    have ea : ((p.take (iv p).length).map fun v => !(v.fdiv (SerM.co p 0) * SerM.co p 0 == v)).any id = !(p.all fun v => v.fdiv (SerM.co p 0) * SerM.co p 0 == v) := by
      rw [List.length_map, List.take_length]
      exact any_not (fun v => v.fdiv (SerM.co p 0) * SerM.co p 0 == v) p
    rw [ea]
    refine ite2 (fun cc => ?_) (fun cc => ?_)
    · refine q1 ?_ H2 s2
      unfold SerM.begun
      rw [if_neg]
      intro z
      rw [z] at cc
      exact absurd cc (by decide)
    · have hall : (p.all fun v => v.fdiv (SerM.co p 0) * SerM.co p 0 == v) = true := by
        cases z : (p.all fun v => v.fdiv (SerM.co p 0) * SerM.co p 0 == v) with
        | true => rfl
        | false => rw [z] at cc; exact absurd rfl cc
      have hb : SerM.begun p = some (p.map fun v => v.fdiv (SerM.co p 0)) := by unfold SerM.begun; rw [if_pos hall]
      refine ⟨_, rfl, a, rfl, ⟨_, s2.seq R⟩, fun D2 hD2' => ?_⟩
      have s3 := s2.trans (same_upd hD2' (.lst []))
      refine lc_list (xs := iv p) (fun i H3 => Same H H3 ∧ H3 D2 = some (.lst (iv ((p.take i).map fun v => v.fdiv (SerM.co p 0))))) ⟨s3, by rw [upd_same]; rfl⟩ (fun i H3 _ h => h.1.seq R) (fun i x H3 hx ⟨s4, hD4⟩ => ?_) (fun H3 ⟨s4, hD4⟩ => ?_)
      · obtain ⟨hi, rfl⟩ := iv_get hx
        refine ⟨rfl, _, rfl, _, rfl, _, _, rfl, rfl, ⟨p0, lg⟩, ?_⟩
        refine ⟨_, hD4, ?_, fun b o hb => ?_, ?_⟩
        · rw [List.length_map, List.length_map, List.length_take]; omega
        · rw [upd_ne (ne_of_none hb (s2.free hD2'))]; exact s4 _ _ hb
        · rw [upd_same, List.take_add_one]
          have : p[i]? = some (SerM.co p i) := by
            unfold SerM.co
            rw [List.getD_eq_getElem?_getD, List.getElem?_eq_getElem hi]; rfl
          rw [this]
          simp
      · rw [List.length_map, List.take_length] at hD4
        exact q2 _ hb D2 H3 s4 (s2.free hD2') hD4
end
end Un
namespace Un
open PySem L2 TL
section
variable {P : Program} {w : World} {K : PySem.W.Frag} {mg : Str → Option Value} {base : Heap}
/-- the list of the first n values of g -/
def tab (g : Nat → Int) (n : Nat) : SerM.Po := (List.range n).map g
theorem tab_len (g : Nat → Int) (n : Nat) : (tab g n).length = n := by simp [tab]
theorem tab_co {g : Nat → Int} {n i : Nat} (h : i < n) : SerM.co (tab g n) i = g i := by
  unfold SerM.co tab
  rw [List.getD_eq_getElem?_getD, List.getElem?_map, List.getElem?_range h]; rfl
theorem tab_eq {g h : Nat → Int} {n : Nat} (e : ∀ i, i < n → g i = h i) : tab g n = tab h n :=
  SerM.co_ext (by rw [tab_len, tab_len]) fun i => by
    by_cases z : i < n
    · rw [tab_co z, tab_co z, e i z]
    · rw [SerM.co_len (by rw [tab_len]; omega), SerM.co_len (by rw [tab_len]; omega)]
theorem tab_self (p : SerM.Po) : tab (SerM.co p) p.length = p :=
  SerM.co_ext (tab_len _ _) fun i => by
    by_cases z : i < p.length
    · exact tab_co z
    · rw [SerM.co_len (by rw [tab_len]; omega), SerM.co_len (by omega)]
theorem tab_get {g : Nat → Int} {n i : Nat} (z : i < n) : (iv (tab g n))[i]? = some (.int (g i)) := by
  rw [iv_at (by rw [tab_len]; exact z), tab_co z]
theorem tab_set (g : Nat → Int) (n j : Nat) (v : Int) : (iv (tab g n)).set j (.int v) = iv (tab (fun i => if i = j then v else g i) n) := by
  refine List.ext_getElem? fun i => ?_
  rw [List.getElem?_set, List.length_map, tab_len]
  by_cases z : i < n
  · rw [tab_get (g := fun i => if i = j then v else g i) z]
    by_cases e : j = i
    · rw [if_pos e, if_pos (by omega), if_pos e.symm]
    · rw [if_neg e, if_neg (fun x => e x.symm)]; exact tab_get z
  · rw [List.getElem?_eq_none (l := iv (tab (fun i => if i = j then v else g i) n)) (by rw [List.length_map, tab_len]; omega)]
    by_cases e : j = i
    · rw [if_pos e, if_neg (by omega)]
    · rw [if_neg e]; exact List.getElem?_eq_none (by rw [List.length_map, tab_len]; omega)
theorem ixN_nat {n i : Nat} (h : i < n) {z : Int} (hz : z = (i : Int)) : ixN n z = some i := by
  subst hz
  unfold ixN
  rw [if_pos (by omega), if_pos (by omega)]; simp
/-! ### quotient_of -/
def eR (row F : SerM.Po) (k i : Nat) : Int := SerM.co row i - SerM.co (SerM.mul (SerM.qt row F k) F) i
theorem eR_zero (row F : SerM.Po) (i : Nat) : eR row F 0 i = SerM.co row i := by
  unfold eR
  show SerM.co row i - SerM.co [] i = _
  rw [SerM.co_nil]; omega
theorem eR_step (row F : SerM.Po) (k i : Nat) : eR row F (k + 1) i = eR row F k i - (if k ≤ i then eR row F k k * SerM.co F (i - k) else 0) := by
  unfold eR
  rw [SerM.qt_step]
  omega
theorem eR_bd {row F : SerM.Po} {c d : Nat} (hr : ∀ i, (SerM.co row i).natAbs < 2 ^ c) (hF : ∀ i, (SerM.co F i).natAbs < 2 ^ d) : ∀ k i, (eR row F k i).natAbs < 2 ^ (c + k * (d + 1))
  | 0, i => by rw [eR_zero, Nat.zero_mul]; exact hr i
  | k + 1, i => by
    have ih := eR_bd hr hF k
    rw [eR_step]
    have h1 := ih i
    have e : 2 ^ (c + (k + 1) * (d + 1)) = 2 ^ (c + k * (d + 1)) * 2 ^ d * 2 := by rw [Nat.succ_mul, ← Nat.add_assoc, Nat.pow_add, Nat.pow_succ, Nat.mul_assoc]
    have hd : 1 ≤ 2 ^ d := Nat.pow_pos (by decide)
    have h3 : 2 ^ (c + k * (d + 1)) ≤ 2 ^ (c + k * (d + 1)) * 2 ^ d := Nat.le_mul_of_pos_right _ hd
    have h2 : (if k ≤ i then eR row F k k * SerM.co F (i - k) else 0).natAbs ≤ 2 ^ (c + k * (d + 1)) * 2 ^ d := by
      split
      · rw [Int.natAbs_mul]; exact Nat.mul_le_mul (Nat.le_of_lt (ih k)) (Nat.le_of_lt (hF _))
      · exact Nat.zero_le _
    rw [e]
    omega
theorem qt_snoc (row F : SerM.Po) (k : Nat) : SerM.qt row F (k + 1) = SerM.qt row F k ++ [eR row F k k] := rfl
abbrev sQuotientOf : Stmt := top 18
def spQuo (K : PySem.W.Frag) : Sp := fun vs H Q _ => ∃ (a b : Addr) (row F : SerM.Po) (c d : Nat), vs = [.ref a, .ref b] ∧ SqL K H a (iv row) ∧ SqL K H b (iv F) ∧ row.length ≤ 1000 ∧ 1 ≤ F.length ∧ F.length ≤ 1000000 ∧ (∀ i, (SerM.co row i).natAbs < 2 ^ c) ∧ (∀ i, (SerM.co F i).natAbs < 2 ^ d) ∧ c ≤ 100000 ∧ d ≤ 100000 ∧
  (SerM.quo row F = none → ∀ H', Same H H' → Q .non H') ∧ ∀ q, SerM.quo row F = some q → ∀ (m : Addr) (H' : Hp), Same H H' → H m = none → H' m = some (.lst (iv q)) → Q (.ref m) H'
theorem scQuotientOf : FnScope ["row", "factor", "rest", "made", "k", "times", "j", "value"] ["row", "factor"] (defScope sQuotientOf) := ⟨rfl, rfl, rfl, by decide +kernel, rfl, by decide +kernel, by decide +kernel⟩
theorem ok_quo {f g : Addr} {fd gd : FuncData} (F0 : Fun K "quotient_of" "quotient_of" sQuotientOf f fd) (T : PolT K w mg) (GO : Df P w K mg base 1 g gd "order_of" ["row"] (spOrderOf K)) : FnOk P w K mg base CX0 2 f fd ["row", "factor"] (spQuo K) := by
  refine F0.ok scQuotientOf (fun vs H Q E h => ?_) (fun cdv A outer s H vs Q E hr h => ?_)
  · obtain ⟨a, b, row, F, c, d, rfl, _⟩ := h
    rfl
  obtain ⟨a, b, row, F, c, d, rfl, Ra, Rb, rl, F1, Fl, hc, hd, c9, d9, q1, q2⟩ := h
  have hsz : 1000000 < sizeLine := by decide
  refine ⟨_, (pss_cons (ps_set (i := 2) scQuotientOf.nd rfl (by first | exact Or.inl rfl | exact Or.inr rfl) (pe_callTy call_list_of (by rfl) T.list (by decide +kernel) (pa_cons (pv 0) pa_nil)))
 (pss_cons (ps_set (i := 3) scQuotientOf.nd rfl (by first | exact Or.inl rfl | exact Or.inr rfl) (pe_lst pa_nil))
 (pss_cons (ps_for PassesOwn.never rfl (pi_range1 (by rfl) T.range (pa_cons (pe_op op_add (pe_op op_sub (pe_callB call_len_seq (by rfl) T.len PySem.boot_len (pa_cons (pv 0) pa_nil)) (pe_callB call_len_seq (by rfl) T.len PySem.boot_len (pa_cons (pv 1) pa_nil))) pe_int) pa_nil)) (pg_name (i := 4) scQuotientOf.nd rfl (by first | exact Or.inl rfl | exact Or.inr rfl))
 (pss_cons (ps_set (i := 5) scQuotientOf.nd rfl (by first | exact Or.inl rfl | exact Or.inr rfl) (pe_ix ix_list (pv 2) (pv 4) (fun _ _ => rfl)))
 (pss_cons (ps_expr (pe_bm PySem.F.plainAttrs_list PySem.F.slot_list_append PySem.F.type_list_append mt_append (pv 3) (pa_cons (pv 5) pa_nil)))
 (pss_one (ps_if (pt_cmpR op_ne (pv 5) pe_int (nomark _))
 (pss_one (ps_for PassesOwn.never rfl (pi_enum (by rfl) T.enum (pa_cons (pv 1) pa_nil)) (pg_tup (by rfl) (pgs_cons (pg_name (i := 6) scQuotientOf.nd rfl (by first | exact Or.inl rfl | exact Or.inr rfl)) (pgs_cons (pg_name (i := 7) scQuotientOf.nd rfl (by first | exact Or.inl rfl | exact Or.inr rfl)) pgs_nil)))
 (pss_one (ps_asg (pe_op op_sub (pe_ix ix_list (pv 2) (pe_op op_add (pv 4) (pv 6)) (fun _ _ => rfl)) (pe_op op_mulX (pv 5) (pv 7))) (pg_sub (pv 2) (pe_op op_add (pv 4) (pv 6)) set_list)))))
 pss_nil)))))
 (pss_one (ps_ret (pe_ifExp (pt_cmpR op_isN (pe_call GO.ok (hr.mono (by decide)) (by rfl) GO.m GO.kp GO.b .nil pass0 (pa_cons (pv 2) pa_nil)) pe_non (nomark _)) (pv 3) pe_non)))))), ?_⟩
  refine ⟨_, rfl, a, _, rfl, .inl Ra, fun x hx => ?_⟩
  have s1 := same_upd hx (.lst (iv row))
  refine ⟨(by show 0 ≤ sizeLine; decide), fun m hm => ?_⟩
  have s2 := s1.trans (same_upd hm (.lst []))
  have hxm : x ≠ m := ne_of_none upd_same hm
  have hmH : H m = none := s1.free hm
  refine ⟨_, rfl, a, _, rfl, .inl (s2.seq Ra), _, rfl, b, _, rfl, .inl (s2.seq Rb), _, _, rfl, rfl, _, _, rfl, rfl, _, rfl, (by rw [List.length_map, List.length_map]; omega), (by rw [List.length_map, List.length_map]; omega), ?_⟩
  have en : (((iv row).length : Int) - ((iv F).length : Int) + 1).toNat = row.length + 1 - F.length := by rw [List.length_map, List.length_map]; omega
  refine for_it (walk_range (lo := 0)) (fun k σ H2 => (∃ v4 v5 v6 v7, σ = [some (.ref a), some (.ref b), some (.ref x), some (.ref m), v4, v5, v6, v7]) ∧ Same H H2 ∧ H2 x = some (.lst (iv (tab (eR row F k) row.length))) ∧ H2 m = some (.lst (iv (SerM.qt row F k))))
    ⟨⟨none, none, none, none, rfl⟩, s2, ?_, upd_same⟩ (fun _ _ _ _ _ => trivial) ?_ ?_
  · rw [upd_ne hxm, upd_same, show tab (eR row F 0) row.length = tab (SerM.co row) row.length from tab_eq fun i _ => eR_zero row F i, tab_self]
  · rintro k v σ H2 H3 hk ⟨⟨v4, v5, v6, v7, rfl⟩, s3, hx3, hm3⟩ ⟨rfl, rfl⟩
    rw [en] at hk
    have kl : k < row.length := by omega
    have hat : ∀ {g : Nat → Int} {i : Nat} {z : Int}, z = (i : Int) → i < row.length → atI (iv (tab g row.length)) z = some (.int (g i)) := fun hz hi => by
      rw [hz]; exact atI_nat (tab_get hi)
    refine ⟨_, rfl, _, rfl, x, _, _, _, rfl, rfl, SqL.of hx3, hat (i := k) (by show (0 : Int) + k = k; omega) kl, ?_⟩
    refine ⟨_, rfl, .inl ⟨rfl, _, SqL.of hm3⟩, _, rfl, m, _, _, rfl, rfl, hm3, (by rw [List.length_map, SerM.qt_len]; omega), ?_⟩
    have eqt : iv (SerM.qt row F k) ++ [V.int (eR row F k k)] = iv (SerM.qt row F (k + 1)) := by rw [qt_snoc]; simp [iv]
    rw [eqt]
    have s4 : Same H (upd H3 m (.lst (iv (SerM.qt row F (k + 1))))) := fun o ob hb => by
      rw [upd_ne (ne_of_none hb hmH)]; exact s3 _ _ hb
    have hx4 : upd H3 m (.lst (iv (SerM.qt row F (k + 1)))) x = some (.lst (iv (tab (eR row F k) row.length))) := by rw [upd_ne hxm]; exact hx3
    have hm4 : upd H3 m (.lst (iv (SerM.qt row F (k + 1)))) m = some (.lst (iv (SerM.qt row F (k + 1)))) := upd_same
    generalize upd H3 m (.lst (iv (SerM.qt row F (k + 1)))) = H4 at s4 hx4 hm4 ⊢
    refine ⟨_, rfl, rfl, _, rfl, ?_⟩
    rw [dec_int]
    refine ite2 (fun cc => ?_) (fun cc => ?_)
    · refine ⟨_, rfl, b, _, rfl, s4.seq Rb, ?_⟩
      refine for_it walk_enum (fun j σ H5 => (∃ v6 v7, σ = [some (.ref a), some (.ref b), some (.ref x), some (.ref m), some (.int (0 + (k : Int))), some (.int (eR row F k k)), v6, v7]) ∧ Same H H5 ∧ H5 x = some (.lst (iv (tab (fun i => eR row F k i - if k ≤ i ∧ i < k + j then eR row F k k * SerM.co F (i - k) else 0) row.length))) ∧ H5 m = some (.lst (iv (SerM.qt row F (k + 1)))))
        ⟨⟨_, _, rfl⟩, s4, ?_, hm4⟩ (fun j σ H5 _ h => h.2.1.seq Rb) ?_ ?_
      · rw [hx4]
        congr 3
        exact tab_eq fun i _ => by rw [if_neg (by omega)]; omega
      · rintro j v σ H5 H6 hj ⟨⟨v6, v7, rfl⟩, s5, hx5, hm5⟩ ⟨t, y, z, rfl, ht, rfl, hy, hz⟩
        cases hy
        obtain ⟨hj', rfl⟩ := iv_get hz
        have tx : x ≠ t := ne_of_none hx5 ht
        have tm : m ≠ t := ne_of_none hm5 ht
        have s6 := s5.trans (same_upd ht (.tup [.int (j : Nat), .int (SerM.co F j)]))
        have hx6 : upd H5 t (.tup [.int (j : Nat), .int (SerM.co F j)]) x = _ := (upd_ne tx).trans hx5
        have hm6 : upd H5 t (.tup [.int (j : Nat), .int (SerM.co F j)]) m = _ := (upd_ne tm).trans hm5
        refine ⟨t, _, rfl, SqT.of upd_same, rfl, _, _, rfl, _, _, rfl, rfl, ?_⟩
        generalize upd H5 t (.tup [.int (j : Nat), .int (SerM.co F j)]) = H7 at s6 hx6 hm6 ⊢
        have ij : k + j < row.length := by omega
        have ei : (0 + (k : Int)) + (j : Int) = ((k + j : Nat) : Int) := by omega
        refine ⟨_, rfl, _, rfl, _, rfl, _, _, rfl, rfl, x, _, _, _, rfl, rfl, SqL.of hx6, hat (i := k + j) ei ij, ?_⟩
        refine ⟨_, rfl, _, rfl, _, _, rfl, rfl, ?_, _, _, rfl, rfl, _, rfl, _, rfl, _, rfl, _, _, rfl, rfl, x, _, _, k + j, rfl, rfl, hx6, ixN_nat (by rw [List.length_map, tab_len]; exact ij) ei, ?_⟩
        · have b1 := bits_le (eR_bd hc hd k k)
          have b2 := bits_le (hd j)
          have b3 := Nat.mul_le_mul (show k ≤ 1000 by omega) (show d + 1 ≤ 100001 by omega)
          show (_ : Int) + _ ≤ 134217728
          generalize k * (d + 1) = zz at *
          omega
        · refine ⟨⟨_, _, rfl⟩, fun o ob hb => ?_, ?_, ?_⟩
          · rw [upd_ne (ne_of_none hb hx)]; exact s6 _ _ hb
          · rw [upd_same]
            have := tab_set (fun i => eR row F k i - if k ≤ i ∧ i < k + j then eR row F k k * SerM.co F (i - k) else 0) row.length (k + j) (eR row F k (k + j) - (if k ≤ k + j ∧ k + j < k + j then eR row F k k * SerM.co F (k + j - k) else 0) - eR row F k k * SerM.co F j)
            refine congrArg (fun z => some (HO.lst z)) (this.trans ?_)
            congr 1
            refine tab_eq fun i hi => ?_
            by_cases e : i = k + j
            · subst e
              rw [if_pos rfl, if_neg (by omega), if_pos (by omega), show k + j - k = j by omega]; omega
            · rw [if_neg e]
              by_cases e2 : k ≤ i ∧ i < k + j
              · rw [if_pos e2, if_pos (by omega)]
              · rw [if_neg e2, if_neg (by omega)]
          · rw [upd_ne hxm.symm]; exact hm6
      · rintro σ H5 ⟨⟨v6, v7, rfl⟩, s5, hx5, hm5⟩
        refine ⟨⟨_, _, _, _, rfl⟩, s5, ?_, hm5⟩
        rw [hx5]
        congr 3
        refine tab_eq fun i hi => ?_
        rw [eR_step, List.length_map]
        by_cases e : k ≤ i ∧ i < k + F.length
        · rw [if_pos e, if_pos e.1]
        · rw [if_neg e]
          by_cases e2 : k ≤ i
          · rw [if_pos e2, SerM.co_len (by omega)]; omega
          · rw [if_neg e2]
    · have t0 : eR row F k k = 0 := by
        apply Classical.byContradiction
        intro z
        exact cc (by simp [z])
      refine ⟨⟨_, _, _, _, rfl⟩, s4, ?_, hm4⟩
      rw [hx4]
      congr 3
      refine tab_eq fun i _ => ?_
      rw [eR_step, t0]
      split <;> omega
  · rintro σ H2 ⟨⟨v4, v5, v6, v7, rfl⟩, s3, hx3, hm3⟩
    rw [en] at hx3 hm3
    refine ⟨_, rfl, x, _, rfl, SqL.of hx3, fun k H' s' hk ne hz => ?_, fun hz H' s' => ?_⟩
    · rw [tab_len] at hk
      rw [tab_co hk] at ne
      have hq : SerM.quo row F = none := by
        unfold SerM.quo
        rw [if_neg]
        intro z
        have := z k hk
        unfold eR at ne
        omega
      refine ⟨rfl, _, rfl, ?_⟩
      rw [decide_eq_false (fun z => by cases z)]
      exact iteF (q1 hq H' (s3.trans s'))
    · have hq : SerM.quo row F = some (SerM.qt row F (row.length + 1 - F.length)) := by
        unfold SerM.quo
        rw [if_pos]
        intro i hi
        have := hz i
        rw [tab_co hi] at this
        unfold eR at this
        omega
      refine ⟨rfl, _, rfl, ?_⟩
      rw [decide_eq_true rfl]
      exact iteT ⟨_, rfl, q2 _ hq m H' (s3.trans s') hmH (s' _ _ hm3)⟩
end
end Un
namespace Un
open PySem L2 TL
section
variable {P : Program} {w : World} {K : PySem.W.Frag} {mg : Str → Option Value} {base : Heap}
theorem ixL {X : Cx} {K : PySem.W.Frag} (hK : X.K = K) : IxR X (rIxL K) := by
  subst hK
  exact ix_list
/-! ### root_bits -/
theorem intBits_bl (i : Int) : Builtin.Int.intBits i = SerM.bl i := by
  unfold Builtin.Int.intBits SerM.bl
  by_cases h : i = 0
  · subst h; rfl
  · simp [h]
theorem bl_le {v : Int} {c : Nat} (h : v.natAbs < 2 ^ c) : SerM.bl v ≤ c := by
  unfold SerM.bl
  split
  · omega
  · rename_i z
    have := (Nat.log2_lt (show v.natAbs ≠ 0 by omega)).mpr h
    omega
abbrev sRootBits : Stmt := top 19
def rbAt (row : SerM.Po) (j : Nat) : Int := (((SerM.bl (SerM.co row (row.length - 1 - j)) : Nat) : Int) - (((SerM.bl (SerM.co row (row.length - 1)) : Nat) : Int) - 1)).fdiv (j : Int)
def spRootBits (K : PySem.W.Frag) : Sp := fun vs H Q _ => ∃ (a : Addr) (row : SerM.Po) (c : Nat), vs = [.ref a] ∧ SqL K H a (iv row) ∧ 1 ≤ row.length ∧ row.length ≤ 1000 ∧ (∀ i, (SerM.co row i).natAbs < 2 ^ c) ∧
  ∀ (rb : Nat) (H' : Hp), Same H H' → 2 ≤ rb → rb ≤ c + 3 → (∀ j, 1 ≤ j → j ≤ row.length - 1 → rbAt row j ≤ (rb : Int) - 2) → Q (.int (rb : Int)) H'
theorem scRootBits : FnScope ["row", "last", "lead", "j"] ["row"] (defScope sRootBits) := ⟨rfl, rfl, rfl, by decide +kernel, rfl, by decide +kernel, by decide +kernel⟩
theorem ok_rootBits {f : Addr} {fd : FuncData} (F : Fun K "root_bits" "root_bits" sRootBits f fd) (T : PolT K w mg) : FnOk P w K mg base CX0 1 f fd ["row"] (spRootBits K) := by
  refine F.ok scRootBits (fun vs H Q E h => ?_) (fun cdv A outer s H vs Q E hr h => ?_)
  · obtain ⟨a, p, c, rfl, _⟩ := h
    rfl
  obtain ⟨a, row, c, rfl, R, l1, l2, hc, q⟩ := h
  refine ⟨_, (pss_cons (ps_set (i := 1) scRootBits.nd rfl (by first | exact Or.inl rfl | exact Or.inr rfl) (pe_op op_sub (pe_callB call_len_seq (by rfl) T.len PySem.boot_len (pa_cons (pv 0) pa_nil)) pe_int))
 (pss_cons (ps_set (i := 2) scRootBits.nd rfl (by first | exact Or.inl rfl | exact Or.inr rfl) (pe_op op_sub (pe_bits (pe_ix ix_list (pv 0) (pv 1) (fun _ _ => rfl))) pe_int))
 (pss_one (ps_ret (pe_op op_add pe_int (pe_callB (cr_max rfl) (by rfl) T.max (by decide +kernel) (pa_cons (pe_op op_cat (pe_lst (pa_cons pe_int pa_nil)) (pe_lc (own := [("j", 3)]) (g := (gName 3)) rfl scRootBits.nd (pi_range2 (by rfl) T.range (pa_cons pe_int (pa_cons (pe_op op_add (pv 1) pe_int) pa_nil))) (blkOk_by (own := [("j", 3)]) (N := ["row", "last", "lead", "j"]) (sc := defScope sRootBits) (by decide +kernel)) (fun _ _ _ _ _ => (pg_name (i := 3) scRootBits.nd rfl (Or.inl rfl) (Or.inr rfl))) (fun _ _ _ _ _ => pts_nil) (fun _ _ _ _ _ => (pe_op op_fdivN (pe_op op_sub (pe_bits (pe_ix (ixL (K := K) rfl) (pv 0) (pe_op op_sub (pv 1) (pv 3)) (fun _ _ => rfl))) (pv 2)) (pv 3))))) pa_nil))))))), ?_⟩
  have el : ((iv row).length : Int) - 1 = ((row.length - 1 : Nat) : Int) := by rw [List.length_map]; omega
  have hat : ∀ {i : Nat} {z : Int}, z = (i : Int) → i < row.length → atI (iv row) z = some (.int (SerM.co row i)) := fun hz hi => by rw [hz]; exact atI_nat (iv_at hi)
  refine ⟨_, rfl, a, _, rfl, .inl R, _, _, rfl, rfl, ?_⟩
  refine ⟨_, rfl, _, rfl, a, _, _, _, rfl, rfl, R, hat (i := row.length - 1) el (by omega), _, rfl, _, _, rfl, rfl, ?_⟩
  rw [intBits_bl]
  refine ⟨(by show 1 ≤ sizeLine; decide), fun z hz => ?_⟩
  have s1 := same_upd hz (.lst [V.int 0])
  refine ⟨_, rfl, _, _, rfl, rfl, 1, _, rfl, ⟨by decide, by decide, (by rw [List.length_map]; omega), (by rw [List.length_map]; omega)⟩, fun D hD => ?_⟩
  have s2 := s1.trans (same_upd hD (.lst []))
  have hzD : z ≠ D := ne_of_none upd_same hD
  have en : ((((iv row).length : Int) - 1 + 1) - 1).toNat = row.length - 1 := by rw [List.length_map]; omega
  have hsz : 1000000 < sizeLine := by decide
  refine lc_it (walk_range (lo := 1)) (fun i H2 => Same H H2 ∧ H2 z = some (.lst [V.int 0]) ∧ H2 D = some (.lst (iv (tab (fun k => rbAt row (k + 1)) i)))) ⟨s2, by rw [upd_ne hzD, upd_same], by rw [upd_same]; rfl⟩ (fun _ _ _ _ => trivial) (fun i x H2 H3 hi ⟨s3, hz3, hD3⟩ ⟨e1, e2⟩ => ?_) (fun H2 ⟨s3, hz3, hD3⟩ => ?_)
  · subst e1 e2
    have hi' : i < row.length - 1 := by rw [← en]; exact hi
    have ei : ((iv row).length : Int) - 1 - (1 + (i : Int)) = ((row.length - 1 - (i + 1) : Nat) : Int) := by rw [List.length_map]; omega
    refine ⟨rfl, _, rfl, _, rfl, _, rfl, _, _, rfl, rfl, a, _, _, _, rfl, rfl, s3.seq R, hat ei (by omega), _, rfl, _, rfl, _, _, rfl, rfl, _, rfl, _, _, rfl, rfl, ⟨by omega, by omega⟩, ?_⟩
    rw [intBits_bl]
    refine ⟨_, hD3, by rw [List.length_map, tab_len]; omega, fun b o hb => ?_, ?_, ?_⟩
    · rw [upd_ne (ne_of_none hb (s1.free hD))]; exact s3 _ _ hb
    · rw [upd_ne hzD]; exact hz3
    · rw [upd_same]
      have e3 : tab (fun k => rbAt row (k + 1)) (i + 1) = tab (fun k => rbAt row (k + 1)) i ++ [rbAt row (i + 1)] := by
        unfold tab
        rw [List.range_succ, List.map_append]; rfl
      rw [e3]
      have e4 : (1 + (i : Int)) = ((i + 1 : Nat) : Int) := by omega
      show some (HO.lst (iv (tab (fun k => rbAt row (k + 1)) i) ++ [V.int ((((SerM.bl (SerM.co row (row.length - 1 - (i + 1))) : Nat) : Int) - (((SerM.bl (SerM.co row (row.length - 1)) : Nat) : Int) - 1)).fdiv (1 + (i : Int)))])) = _
      rw [e4]
      simp [iv, rbAt]
  · rw [en] at hD3
    refine ⟨z, D, _, _, rfl, rfl, hz3, hD3, (by rw [List.length_map, tab_len]; show 1 + _ ≤ _; omega), fun y hy => ?_⟩
    have s5 := s3.trans (same_upd hy (.lst ([V.int 0] ++ iv (tab (fun k => rbAt row (k + 1)) (row.length - 1)))))
    refine ⟨y, 0 :: tab (fun k => rbAt row (k + 1)) (row.length - 1), rfl, SqL.of upd_same, Nat.succ_pos _, fun mx hm hmax => ?_⟩
    refine ⟨_, _, rfl, rfl, ?_⟩
    have m0 := hmax 0 (by simp)
    have mc : mx ≤ (c : Int) + 1 := by
      rcases List.mem_cons.mp hm with e | e
      · omega
      · unfold tab at e
        obtain ⟨i, hi, rfl⟩ := List.mem_map.mp e
        have b1 := bl_le (hc (row.length - 1 - (i + 1)))
        unfold rbAt
        rw [Int.fdiv_eq_ediv_of_nonneg _ (by omega)]
        refine Int.ediv_le_of_le_mul (by omega) ?_
        have := Int.mul_le_mul_of_nonneg_left (show (1 : Int) ≤ ((i + 1 : Nat) : Int) by omega) (show 0 ≤ (c : Int) + 1 by omega)
        omega
    have er : (2 : Int) + mx = (((2 + mx).toNat : Nat) : Int) := by omega
    show Q (.int (2 + mx)) _
    rw [er]
    refine q _ _ s5 (by omega) (by omega) fun j j1 j2 => ?_
    have := hmax (rbAt row j) (List.mem_cons_of_mem _ (List.mem_map.mpr ⟨j - 1, List.mem_range.mpr (by omega), by show rbAt row (j - 1 + 1) = _; rw [show j - 1 + 1 = j by omega]⟩))
    omega
end
end Un
namespace Un
open PySem L2 TL
section
variable {P : Program} {w : World} {K : PySem.W.Frag} {mg : Str → Option Value} {base : Heap}
/-! ### cancelled -/
abbrev sCancelled : Stmt := top 23
/-- the looks of the loop end: k in vain, then one that gives l and r -/
structure Looks (one other : SerM.Po) (bits k : Nat) (l r : SerM.Po) : Prop where
  ok : SerM.look (2 ^ (bits * 2 ^ k - 1)) one other = some (l, r)
  no : ∀ j, j < k → SerM.look (2 ^ (bits * 2 ^ j - 1)) one other = none
  sm : bits * 2 ^ k ≤ 9000
def spCanc (K : PySem.W.Frag) : Sp := fun vs H Q _ => ∃ (a b : Addr) (one other : SerM.Po) (c : Nat), vs = [.ref a, .ref b] ∧ SqL K H a (iv one) ∧ SqL K H b (iv other) ∧ 1 ≤ one.length ∧ one.length ≤ 100 ∧ other.length ≤ 100 ∧ SerM.ev other 0 = 1 ∧
  (∀ i, (SerM.co one i).natAbs < 2 ^ c) ∧ (∀ i, (SerM.co other i).natAbs < 2 ^ c) ∧ c ≤ 9000 ∧
  ∀ r1 r2 : Nat, 2 ≤ r1 → 2 ≤ r2 → r1 ≤ c + 3 → r2 ≤ c + 3 → (∀ j, 1 ≤ j → j ≤ one.length - 1 → rbAt one j ≤ (r1 : Int) - 2) → (∀ j, 1 ≤ j → j ≤ other.length - 1 → rbAt other j ≤ (r2 : Int) - 2) →
    ∃ (k : Nat) (l r : SerM.Po), Looks one other (min r1 r2 + 32) k l r ∧ ∀ (t x y : Addr) (H' : Hp), Same H H' → H' t = some (.tup [.ref x, .ref y]) → H' x = some (.lst (iv l)) → H' y = some (.lst (iv r)) → H x = none → H y = none → Q (.ref t) H'
theorem scCancelled : FnScope ["one", "other", "bits", "divisor", "factor", "left", "right"] ["one", "other"] (defScope sCancelled) := ⟨rfl, rfl, rfl, by decide +kernel, rfl, by decide +kernel, by decide +kernel⟩
theorem ok_canc {f g1 g2 g3 g4 g5 : Addr} {fd d1 d2 d3 d4 d5 : FuncData} (F : Fun K "cancelled" "cancelled" sCancelled f fd) (T : PolT K w mg) (GR : Df P w K mg base 1 g1 d1 "root_bits" ["row"] (spRootBits K)) (GV : Df P w K mg base 1 g2 d2 "value_at" ["row", "bits"] (spValueAt K)) (GD : Df P w K mg base 1 g3 d3 "digits_of" ["number", "bits"] (spDigitsOf K))
    (GB : Df P w K mg base 1 g4 d4 "begun_with_one" ["row"] (spBegun K)) (GQ : Df P w K mg base 2 g5 d5 "quotient_of" ["row", "factor"] (spQuo K)) : FnOk P w K mg base CX0 3 f fd ["one", "other"] (spCanc K) := by
  refine F.ok scCancelled (fun vs H Q E h => ?_) (fun cdv A outer s H vs Q E hr h => ?_)
  · obtain ⟨a, b, one, other, c, rfl, _⟩ := h
    rfl
  obtain ⟨a, b, one, other, c, rfl, Ra, Rb, l1, l2, l3, o1, hc1, hc2, c9, q⟩ := h
  obtain ⟨tS, mspare⟩ := T.spare
  refine ⟨_, (pss_cons (ps_set (i := 2) scCancelled.nd rfl (by first | exact Or.inl rfl | exact Or.inr rfl) (pe_op op_add (pe_callB (call_min2 rfl) (by rfl) T.min (by decide +kernel) (pa_cons (pe_call GR.ok (hr.mono (by decide)) (by rfl) GR.m GR.kp GR.b .nil pass0 (pa_cons (pv 0) pa_nil)) (pa_cons (pe_call GR.ok (hr.mono (by decide)) (by rfl) GR.m GR.kp GR.b .nil pass0 (pa_cons (pv 1) pa_nil)) pa_nil))) (pe_glob (v := .int 32) (by rfl) mspare ⟨_, rfl⟩)))
 (pss_one (ps_while PassesOwn.never (pt_val pe_bl)
 (pss_cons (ps_set (i := 3) scCancelled.nd rfl (by first | exact Or.inl rfl | exact Or.inr rfl) (pe_callBfun cr_gcd (by rfl) T.gcd (pa_cons (pe_call GV.ok (hr.mono (by decide)) (by rfl) GV.m GV.kp GV.b .nil pass0 (pa_cons (pv 0) (pa_cons (pv 2) pa_nil))) (pa_cons (pe_call GV.ok (hr.mono (by decide)) (by rfl) GV.m GV.kp GV.b .nil pass0 (pa_cons (pv 1) (pa_cons (pv 2) pa_nil))) pa_nil))))
 (pss_cons (ps_set (i := 4) scCancelled.nd rfl (by first | exact Or.inl rfl | exact Or.inr rfl) (pe_call GB.ok (hr.mono (by decide)) (by rfl) GB.m GB.kp GB.b .nil pass0 (pa_cons (pe_call GD.ok (hr.mono (by decide)) (by rfl) GD.m GD.kp GD.b .nil pass0 (pa_cons (pv 3) (pa_cons (pv 2) pa_nil))) pa_nil)))
 (pss_cons (ps_if (pt_cmpR op_notN (pv 4) pe_non (nomark _))
 (pss_cons (ps_set (i := 5) scCancelled.nd rfl (by first | exact Or.inl rfl | exact Or.inr rfl) (pe_call GQ.ok (hr.mono (by decide)) (by rfl) GQ.m GQ.kp GQ.b .nil pass0 (pa_cons (pv 0) (pa_cons (pv 4) pa_nil))))
 (pss_cons (ps_set (i := 6) scCancelled.nd rfl (by first | exact Or.inl rfl | exact Or.inr rfl) (pe_call GQ.ok (hr.mono (by decide)) (by rfl) GQ.m GQ.kp GQ.b .nil pass0 (pa_cons (pv 1) (pa_cons (pv 4) pa_nil))))
 (pss_one (ps_if (PW.pt (pw_and (pt_cmpR op_notN (pv 5) pe_non (nomark _)) (pw_and1 (pt_cmpR op_notN (pv 6) pe_non (nomark _)))))
 (pss_one (ps_ret (pe_tup (pa_cons (pv 5) (pa_cons (pv 6) pa_nil)))))
 pss_nil))))
 pss_nil)
 (pss_one (ps_set (i := 2) scCancelled.nd rfl (by first | exact Or.inl rfl | exact Or.inr rfl) (pe_op op_mul pe_int (pv 2)))))))))), ?_⟩
  have o0 : 1 ≤ other.length := Nat.pos_of_ne_zero fun z => by
    rw [List.length_eq_zero_iff.mp z] at o1; exact absurd o1 (by decide)
  refine ⟨_, rfl, a, one, c, rfl, Ra, l1, by omega, hc1, fun r1 H1 s1 r12 r1c hr1 => ?_⟩
  refine ⟨_, rfl, b, other, c, rfl, s1.seq Rb, o0, by omega, hc2, fun r2 H2 s2' r22 r2c hr2 => ?_⟩
  have s2 := s1.trans s2'
  obtain ⟨k, l, r, LK, qq⟩ := q r1 r2 r12 r22 r1c r2c hr1 hr2
  refine ⟨_, _, rfl, _, _, rfl, rfl, ?_⟩
  have eb : (if (r2 : Int) < (r1 : Int) then (r2 : Int) else (r1 : Int)) + 32 = ((min r1 r2 + 32 : Nat) : Int) := by split <;> omega
  generalize hb0 : min r1 r2 + 32 = b0 at eb LK
  have b02 : 34 ≤ b0 := by omega
  refine ⟨fun m σ H3 => ∃ (j : Nat) (v3 v4 v5 v6 : Option V), σ = [some (.ref a), some (.ref b), some (.int ((b0 * 2 ^ j : Nat) : Int)), v3, v4, v5, v6] ∧ Same H H3 ∧ j ≤ k ∧ m = k - j,
    ⟨_, 0, none, none, none, none, congrArg (fun z => [some (V.ref a), some (.ref b), some (V.int z), none, none, none, none]) (eb.trans (by simp)), s2, Nat.zero_le _, rfl⟩, ?_⟩
  rintro m σ H3 ⟨j, v3, v4, v5, v6, rfl, s3, hj, rfl⟩
  refine ⟨_, rfl, iteT ⟨fun σ' H' => ∃ m', m' < k - j ∧ ∃ (j : Nat) (v3 v4 v5 v6 : Option V), σ' = [some (.ref a), some (.ref b), some (.int ((b0 * 2 ^ j : Nat) : Int)), v3, v4, v5, v6] ∧ Same H H' ∧ j ≤ k ∧ m' = k - j, fun σ' H' h => h, ?_⟩⟩
  have pj : b0 * 2 ^ j ≤ 9000 := Nat.le_trans (Nat.mul_le_mul_left _ (Nat.pow_le_pow_right (by decide) hj)) LK.sm
  have pj0 : b0 ≤ b0 * 2 ^ j := Nat.le_mul_of_pos_right _ (Nat.pow_pos (by decide))
  have enext : b0 * 2 ^ (j + 1) = 2 * (b0 * 2 ^ j) := by rw [Nat.pow_succ, ← Nat.mul_assoc, Nat.mul_comm]
  have lk : j = k → SerM.look (2 ^ (b0 * 2 ^ j - 1)) one other = some (l, r) := fun e => by rw [e]; exact LK.ok
  have lno : j < k → SerM.look (2 ^ (b0 * 2 ^ j - 1)) one other = none := LK.no j
  generalize hB : b0 * 2 ^ j = Bt at *
  obtain ⟨n, rfl⟩ : ∃ n, Bt = n + 1 := ⟨Bt - 1, by omega⟩
  have m1 : (n + 2) * one.length ≤ 9001 * 100 := Nat.mul_le_mul (by omega) l2
  have m2 : (n + 2) * other.length ≤ 9001 * 100 := Nat.mul_le_mul (by omega) l3
  refine ⟨_, rfl, _, rfl, a, one, n + 1, c, rfl, s3.seq Ra, hc1, (by show c + (n + 2) * one.length + (n + 1) + 2 ≤ 134217728; omega), fun H4 s4 => ?_⟩
  refine ⟨_, rfl, _, rfl, b, other, n + 1, c, rfl, (s3.trans s4).seq Rb, hc2, (by show c + (n + 2) * other.length + (n + 1) + 2 ≤ 134217728; omega), fun H5 s5 => ?_⟩
  refine ⟨_, _, rfl, ?_⟩
  rw [Nat.add_sub_cancel] at lk lno
  have eY : ((2 ^ n : Nat) : Int) = 2 ^ n := by simp
  have eX : 2 * ((2 ^ n : Nat) : Int) = 2 ^ (n + 1) := by rw [eY, Int.pow_succ, Int.mul_comm]
  have godd := SerM.gcd_odd (Y := 2 ^ n) (one := one) o1
  rw [eX] at godd
  have hlook : SerM.look (2 ^ n) one other = match SerM.begun (SerM.digs (2 ^ n) (Int.gcd (SerM.ev one (2 ^ (n + 1))) (SerM.ev other (2 ^ (n + 1)))) (Int.gcd (SerM.ev one (2 ^ (n + 1))) (SerM.ev other (2 ^ (n + 1))))) with
      | none => none
      | some F => match SerM.quo one F, SerM.quo other F with
        | some l, some r => some (l, r)
        | _, _ => none := by
    unfold SerM.look
    rw [eX, eY]
    all_goals rfl
  have hn1 : 1 ≤ n := by omega
  have hDb : Int.gcd (SerM.ev one (2 ^ (n + 1))) (SerM.ev other (2 ^ (n + 1))) < 2 ^ (c + (n + 1 + 1) * other.length + 1) := by
    have h1 := ev_bits (n := n + 1) hc2
    have h0 : (SerM.ev other (2 ^ (n + 1))).natAbs ≠ 0 := fun z => by
      have e0 : SerM.ev other (2 ^ (n + 1)) = 0 := by omega
      obtain ⟨u, hu⟩ := SerM.odd_val o1 (2 ^ (n + 1))
      rw [e0, ← eX, Int.mul_assoc] at hu
      omega
    have h2 : Int.gcd (SerM.ev one (2 ^ (n + 1))) (SerM.ev other (2 ^ (n + 1))) ≤ (SerM.ev other (2 ^ (n + 1))).natAbs := Nat.gcd_le_right _ (Nat.pos_of_ne_zero h0)
    omega
  have eN : ∀ u v : Int, Nat.gcd u.natAbs v.natAbs = Int.gcd u v := fun u v => rfl
  rw [eN]
  generalize Int.gcd (SerM.ev one (2 ^ (n + 1))) (SerM.ev other (2 ^ (n + 1))) = D at godd hlook hDb ⊢
  have hY2 : (2 : Int) ≤ 2 ^ n := by
    have := Nat.pow_le_pow_right (show 0 < 2 by decide) hn1
    rw [← eY]; omega
  have pe := SerM.digs_ev hY2 D (D : Int) (by omega)
  have pr := SerM.digs_rng hY2 D (D : Int)
  have pl := digs_len hY2 _ D (D : Int) (by simpa using hDb)
  have m3 : (n + 1 + 1) * other.length ≤ 9001 * 100 := m2
  have s35 := (s3.trans s4).trans s5
  refine ⟨_, rfl, _, rfl, (D : Int), n, _, rfl, hn1, by omega, by simpa using hDb, by omega, fun y H6 s6 hy hy6 => ?_⟩
  rw [show ((D : Int)).natAbs = D from Int.natAbs_natCast D] at hy6
  generalize SerM.digs (2 ^ n) D (D : Int) = p at pe pr pl hy6 hlook
  have p0 : SerM.co p 0 ≠ 0 := fun z => by
    obtain ⟨u, hu⟩ := SerM.ev_mod (p := p) (2 * (2 ^ n))
    rw [pe, z, Int.mul_assoc] at hu
    omega
  have pb : ∀ i, (SerM.co p i).natAbs < 2 ^ (n + 1) := fun i => by
    have h1 := pr i
    rw [← eY] at h1
    have h2 := Nat.pow_pos (n := n) (show 0 < 2 by decide)
    rw [Nat.pow_succ]; omega
  have next : SerM.look (2 ^ n) one other = none → ∀ (v3 v4 v5 v6 : Option V) (H' : Hp), Same H H' → ∃ m', m' < k - j ∧ ∃ (j' : Nat) (w3 w4 w5 w6 : Option V), [some (V.ref a), some (.ref b), some (.int (2 * ((n + 1 : Nat) : Int))), v3, v4, v5, v6] = [some (.ref a), some (.ref b), some (.int ((b0 * 2 ^ j' : Nat) : Int)), w3, w4, w5, w6] ∧ Same H H' ∧ j' ≤ k ∧ m' = k - j' := fun hn v3 v4 v5 v6 H' sH => by
    have jk : j < k := Nat.lt_of_le_of_ne hj fun e => by rw [lk e] at hn; cases hn
    refine ⟨k - (j + 1), by omega, j + 1, v3, v4, v5, v6, ?_, sH, by omega, rfl⟩
    rw [enext, Int.natCast_mul]; rfl
  refine ⟨y, p, n + 1, rfl, SqL.of hy6, by omega, p0, pb, by omega, fun hF H7 s7 => ?_, fun Fc hF fa H7 s7 hfa hfa7 => ?_⟩
  · have hnone : SerM.look (2 ^ n) one other = none := by rw [hlook, hF]
    refine ⟨_, rfl, rfl, _, rfl, ?_⟩
    rw [decide_eq_true rfl]
    refine iteF ⟨_, rfl, _, _, rfl, rfl, ?_⟩
    exact ⟨.inl ⟨by decide, by decide⟩, next hnone _ _ _ _ H7 ((s35.trans s6).trans s7)⟩
  · rw [hF] at hlook
    obtain ⟨c1, c2, c3⟩ := SerM.begun_some p0 hF
    have Fb : ∀ i, (SerM.co Fc i).natAbs < 2 ^ (n + 1) := fun i => by
      have h1 := pb i
      rw [c1, Int.natAbs_mul] at h1
      have := Nat.le_mul_of_pos_left (SerM.co Fc i).natAbs (show 0 < (SerM.co p 0).natAbs by omega)
      omega
    have F1 : 1 ≤ Fc.length := Nat.pos_of_ne_zero fun z => by rw [List.length_eq_zero_iff.mp z, SerM.co_nil] at c2; omega
    have s37 := (s35.trans s6).trans s7
    refine ⟨_, rfl, rfl, _, rfl, ?_⟩
    rw [decide_eq_false (fun z => by cases z)]
    refine iteT ?_
    refine ⟨_, rfl, _, rfl, a, fa, one, Fc, c, n + 1, rfl, s37.seq Ra, SqL.of hfa7, by omega, F1, by omega, hc1, Fb, by omega, by omega, fun hq H8 s8 => ?_, fun ql hq x H8 s8 hx hx8 => ?_⟩
    · have hnone : SerM.look (2 ^ n) one other = none := by rw [hlook]; simp only [hq]
      refine ⟨_, rfl, _, rfl, b, fa, other, Fc, c, n + 1, rfl, (s37.trans s8).seq Rb, SqL.of (s8 _ _ hfa7), by omega, F1, by omega, hc2, Fb, by omega, by omega, fun hq2 H9 s9 => ?_, fun qr hq2 z H9 s9 hz hz9 => ?_⟩
      · refine ⟨_, rfl, rfl, _, rfl, ?_⟩
        rw [decide_eq_true rfl]
        exact iteF ⟨_, rfl, _, _, rfl, rfl, .inl ⟨by decide, by decide⟩, next hnone _ _ _ _ H9 ((s37.trans s8).trans s9)⟩
      · refine ⟨_, rfl, rfl, _, rfl, ?_⟩
        rw [decide_eq_true rfl]
        exact iteF ⟨_, rfl, _, _, rfl, rfl, .inl ⟨by decide, by decide⟩, next hnone _ _ _ _ H9 ((s37.trans s8).trans s9)⟩
    · refine ⟨_, rfl, _, rfl, b, fa, other, Fc, c, n + 1, rfl, (s37.trans s8).seq Rb, SqL.of (s8 _ _ hfa7), by omega, F1, by omega, hc2, Fb, by omega, by omega, fun hq2 H9 s9 => ?_, fun qr hq2 z H9 s9 hz hz9 => ?_⟩
      · have hnone : SerM.look (2 ^ n) one other = none := by rw [hlook]; simp only [hq, hq2]
        refine ⟨_, rfl, rfl, _, rfl, ?_⟩
        rw [decide_eq_false (fun z => by cases z)]
        refine iteT ⟨_, rfl, rfl, _, rfl, ?_⟩
        rw [decide_eq_true rfl]
        exact iteF ⟨_, rfl, _, _, rfl, rfl, .inl ⟨by decide, by decide⟩, next hnone _ _ _ _ H9 ((s37.trans s8).trans s9)⟩
      · have hsome : SerM.look (2 ^ n) one other = some (ql, qr) := by rw [hlook]; simp only [hq, hq2]
        have jk : j = k := by
          apply Classical.byContradiction
          intro z
          rw [lno (by omega)] at hsome
          cases hsome
        rw [lk jk] at hsome
        obtain ⟨rfl, rfl⟩ : l = ql ∧ r = qr := by simpa using hsome
        refine ⟨_, rfl, rfl, _, rfl, ?_⟩
        rw [decide_eq_false (fun z => by cases z)]
        refine iteT ⟨_, rfl, rfl, _, rfl, ?_⟩
        rw [decide_eq_false (fun z => by cases z)]
        refine iteT ⟨_, rfl, _, rfl, (by show 2 ≤ sizeLine; decide), fun t ht => ?_⟩
        have s9' := ((s37.trans s8).trans s9)
        exact qq t x z _ (s9'.trans (same_upd ht _)) upd_same (by rw [upd_ne (ne_of_none (s9 _ _ hx8) ht)]; exact s9 _ _ hx8) (by rw [upd_ne (ne_of_none hz9 ht)]; exact hz9) (s37.free hx) ((s37.trans s8).free hz)
end
end Un
namespace Un
open PySem L2 TL
section
variable {P : Program} {w : World} {K : PySem.W.Frag} {mg : Str → Option Value} {base : Heap}
/-! ### product_of -/
theorem mul_snoc (p : SerM.Po) (t : Int) (F : SerM.Po) (i : Nat) : SerM.co (SerM.mul (p ++ [t]) F) i = SerM.co (SerM.mul p F) i + (if p.length ≤ i then t * SerM.co F (i - p.length) else 0) := by
  have e : ∀ x, SerM.ev (SerM.mul (p ++ [t]) F) x = SerM.ev (SerM.add (SerM.mul p F) (SerM.zp p.length (SerM.smul t F))) x := fun x => by
    rw [SerM.ev_mul, SerM.ev_add, SerM.ev_mul, SerM.ev_zp, SerM.ev_smul, SerM.ev_app]
    show (SerM.ev p x + x ^ p.length * (t + x * 0)) * SerM.ev F x = _
    grind
  rw [SerM.co_of_ev 0 (fun x _ => e x), SerM.co_add]
  congr 1
  by_cases h : p.length ≤ i
  · rw [if_pos h]
    obtain ⟨j, rfl⟩ : ∃ j, i = p.length + j := ⟨i - p.length, by omega⟩
    rw [SerM.co_zp, SerM.co_smul]; congr 2; omega
  · rw [if_neg h]
    have : ∀ (k i : Nat) (q : SerM.Po), i < k → SerM.co (SerM.zp k q) i = 0 := fun k => by
      induction k with
      | zero => intro i q h; omega
      | succ k ih =>
        intro i q h
        cases i with
        | zero => rfl
        | succ i => exact ih i q (by omega)
    exact this _ _ _ (by omega)
def pP (one other : SerM.Po) (k i : Nat) : Int := SerM.co (SerM.mul (one.take k) other) i
theorem pP_step {one other : SerM.Po} {k : Nat} (hk : k < one.length) (i : Nat) : pP one other (k + 1) i = pP one other k i + (if k ≤ i then SerM.co one k * SerM.co other (i - k) else 0) := by
  unfold pP
  have e : one.take (k + 1) = one.take k ++ [SerM.co one k] := by
    rw [List.take_add_one, List.getElem?_eq_getElem hk]
    unfold SerM.co
    rw [List.getD_eq_getElem?_getD, List.getElem?_eq_getElem hk]; rfl
  rw [e, mul_snoc, show (one.take k).length = k by rw [List.length_take]; omega]
abbrev sProductOf : Stmt := top 17
def spProd (K : PySem.W.Frag) : Sp := fun vs H Q _ => ∃ (a b : Addr) (one other : SerM.Po) (c : Nat), vs = [.ref a, .ref b] ∧ SqL K H a (iv one) ∧ SqL K H b (iv other) ∧ one.length ≤ 1000 ∧ other.length ≤ 1000 ∧ (∀ i, (SerM.co one i).natAbs < 2 ^ c) ∧ (∀ i, (SerM.co other i).natAbs < 2 ^ c) ∧ c ≤ 100000 ∧
  ∀ (m : Addr) (H' : Hp), Same H H' → H m = none → H' m = some (.lst (iv (tab (SerM.co (SerM.mul one other)) (one.length + other.length)))) → Q (.ref m) H'
theorem scProductOf : FnScope ["one", "other", "made", "k", "left", "j", "right", "_"] ["one", "other"] (defScope sProductOf) := ⟨rfl, rfl, rfl, by decide +kernel, rfl, by decide +kernel, by decide +kernel⟩
theorem ok_prod {f : Addr} {fd : FuncData} (F : Fun K "product_of" "product_of" sProductOf f fd) (T : PolT K w mg) : FnOk P w K mg base CX0 1 f fd ["one", "other"] (spProd K) := by
  refine F.ok scProductOf (fun vs H Q E h => ?_) (fun cdv A outer s H vs Q E hr h => ?_)
  · obtain ⟨a, b, one, other, c, rfl, _⟩ := h
    rfl
  obtain ⟨a, b, one, other, c, rfl, Ra, Rb, l1, l2, hc1, hc2, c9, q⟩ := h
  have hsz : 1000000 < sizeLine := by decide
  refine ⟨_, (pss_cons (ps_setLc (i := 2) (own := [("_", 7)]) (g := (gName 7)) rfl scProductOf.nd rfl rfl (sw_true rfl rfl rfl (by decide +kernel)) (pi_range1 (by rfl) T.range (pa_cons (pe_op op_add (pe_callB call_len_seq (by rfl) T.len PySem.boot_len (pa_cons (pv 0) pa_nil)) (pe_callB call_len_seq (by rfl) T.len PySem.boot_len (pa_cons (pv 1) pa_nil))) pa_nil)) (blkOk_by (own := [("_", 7)]) (N := ["one", "other", "made", "k", "left", "j", "right", "_"]) (sc := defScope sProductOf) (by decide +kernel)) (fun _ _ _ _ _ => (pg_name (i := 7) scProductOf.nd rfl (Or.inl rfl) (Or.inr rfl))) (fun _ _ _ _ _ => pts_nil) (fun _ _ _ _ _ => pe_int))
 (pss_cons (ps_for PassesOwn.never rfl (pi_enum (by rfl) T.enum (pa_cons (pv 0) pa_nil)) (pg_tup (by rfl) (pgs_cons (pg_name (i := 3) scProductOf.nd rfl (by first | exact Or.inl rfl | exact Or.inr rfl)) (pgs_cons (pg_name (i := 4) scProductOf.nd rfl (by first | exact Or.inl rfl | exact Or.inr rfl)) pgs_nil)))
 (pss_one (ps_if (pt_cmpR op_ne (pv 4) pe_int (nomark _))
 (pss_one (ps_for PassesOwn.never rfl (pi_enum (by rfl) T.enum (pa_cons (pv 1) pa_nil)) (pg_tup (by rfl) (pgs_cons (pg_name (i := 5) scProductOf.nd rfl (by first | exact Or.inl rfl | exact Or.inr rfl)) (pgs_cons (pg_name (i := 6) scProductOf.nd rfl (by first | exact Or.inl rfl | exact Or.inr rfl)) pgs_nil)))
 (pss_one (ps_asg (pe_op op_add (pe_ix ix_list (pv 2) (pe_op op_add (pv 3) (pv 5)) (fun _ _ => rfl)) (pe_op op_mulX (pv 4) (pv 6))) (pg_sub (pv 2) (pe_op op_add (pv 3) (pv 5)) set_list)))))
 pss_nil)))
 (pss_one (ps_ret (pv 2))))), ?_⟩
  refine ⟨_, rfl, a, _, rfl, .inl Ra, _, rfl, b, _, rfl, .inl Rb, _, _, rfl, rfl, _, rfl, (by rw [List.length_map, List.length_map]; omega), (by rw [List.length_map, List.length_map]; omega), fun m hm => ?_⟩
  have en : (((iv one).length : Int) + ((iv other).length : Int)).toNat = one.length + other.length := by rw [List.length_map, List.length_map]; omega
  refine lc_it (walk_range (lo := 0)) (fun i H2 => Same H H2 ∧ H2 m = some (.lst (iv (tab (fun _ => 0) i)))) ⟨same_upd hm _, by rw [upd_same]; rfl⟩ (fun _ _ _ _ => trivial) (fun i x H2 H3 hi ⟨s3, hm3⟩ ⟨e1, e2⟩ => ?_) (fun H2 ⟨s2, hm2⟩ => ?_)
  · subst e1 e2
    rw [en] at hi
    refine ⟨rfl, _, hm3, by rw [List.length_map, tab_len]; omega, fun o ob hb => ?_, ?_⟩
    · rw [upd_ne (ne_of_none hb hm)]; exact s3 _ _ hb
    · rw [upd_same, show tab (fun _ => 0) (i + 1) = tab (fun _ => 0) i ++ [0] by unfold tab; rw [List.range_succ, List.map_append]; rfl]
      simp [iv]
  · rw [en] at hm2
    refine ⟨_, rfl, a, _, rfl, s2.seq Ra, ?_⟩
    have hat : ∀ {g : Nat → Int} {i : Nat} {z : Int}, z = (i : Int) → i < one.length + other.length → atI (iv (tab g (one.length + other.length))) z = some (.int (g i)) := fun hz hi => by
      rw [hz]; exact atI_nat (tab_get hi)
    refine for_it walk_enum (fun k σ H3 => (∃ v3 v4 v5 v6 v7, σ = [some (.ref a), some (.ref b), some (.ref m), v3, v4, v5, v6, v7]) ∧ Same H H3 ∧ H3 m = some (.lst (iv (tab (pP one other k) (one.length + other.length)))))
      ⟨⟨none, none, none, none, none, rfl⟩, s2, ?_⟩ (fun k σ H3 _ h => h.2.1.seq Ra) ?_ ?_
    · rw [hm2]
      congr 3
    · rintro k v σ H3 H4 hk ⟨⟨v3, v4, v5, v6, v7, rfl⟩, s3, hm3⟩ ⟨t, y, z, rfl, ht, rfl, hy, hz⟩
      cases hy
      obtain ⟨hk', rfl⟩ := iv_get hz
      have tm : m ≠ t := ne_of_none hm3 ht
      have s4 := s3.trans (same_upd ht (.tup [.int (k : Nat), .int (SerM.co one k)]))
      have hm4 : upd H3 t (.tup [.int (k : Nat), .int (SerM.co one k)]) m = _ := (upd_ne tm).trans hm3
      refine ⟨t, _, rfl, SqT.of upd_same, rfl, _, _, rfl, _, _, rfl, rfl, ?_⟩
      generalize upd H3 t (.tup [.int (k : Nat), .int (SerM.co one k)]) = H5 at s4 hm4 ⊢
      refine ⟨_, rfl, rfl, _, rfl, ?_⟩
      rw [dec_int]
      refine ite2 (fun cc => ?_) (fun cc => ?_)
      · refine ⟨_, rfl, b, _, rfl, s4.seq Rb, ?_⟩
        refine for_it walk_enum (fun j σ H6 => (∃ v5 v6 v7, σ = [some (.ref a), some (.ref b), some (.ref m), some (.int (k : Int)), some (.int (SerM.co one k)), v5, v6, v7]) ∧ Same H H6 ∧ H6 m = some (.lst (iv (tab (fun i => pP one other k i + if k ≤ i ∧ i < k + j then SerM.co one k * SerM.co other (i - k) else 0) (one.length + other.length)))))
          ⟨⟨v5, v6, v7, rfl⟩, s4, ?_⟩ (fun j σ H6 _ h => h.2.1.seq Rb) ?_ ?_
        · rw [hm4]
          congr 3
          exact tab_eq fun i _ => by rw [if_neg (by omega)]; omega
        · rintro j v σ H6 H7 hj ⟨⟨v5, v6, v7, rfl⟩, s6, hm6⟩ ⟨t, y, z, rfl, ht, rfl, hy, hz⟩
          cases hy
          obtain ⟨hj', rfl⟩ := iv_get hz
          have tm : m ≠ t := ne_of_none hm6 ht
          have s7 := s6.trans (same_upd ht (.tup [.int (j : Nat), .int (SerM.co other j)]))
          have hm7 : upd H6 t (.tup [.int (j : Nat), .int (SerM.co other j)]) m = _ := (upd_ne tm).trans hm6
          refine ⟨t, _, rfl, SqT.of upd_same, rfl, _, _, rfl, _, _, rfl, rfl, ?_⟩
          generalize upd H6 t (.tup [.int (j : Nat), .int (SerM.co other j)]) = H8 at s7 hm7 ⊢
          have ij : k + j < one.length + other.length := by omega
          have ei : (k : Int) + (j : Int) = ((k + j : Nat) : Int) := by omega
          refine ⟨_, rfl, _, rfl, _, rfl, _, _, rfl, rfl, m, _, _, _, rfl, rfl, SqL.of hm7, hat (i := k + j) ei ij, ?_⟩
          refine ⟨_, rfl, _, rfl, _, _, rfl, rfl, ?_, _, _, rfl, rfl, _, rfl, _, rfl, _, rfl, _, _, rfl, rfl, m, _, _, k + j, rfl, rfl, hm7, ixN_nat (by rw [List.length_map, tab_len]; exact ij) ei, ?_⟩
          · have b1 := bits_le (hc1 k)
            have b2 := bits_le (hc2 j)
            show (_ : Int) + _ ≤ 134217728
            omega
          · refine ⟨⟨_, _, _, rfl⟩, fun o ob hb => ?_, ?_⟩
            · rw [upd_ne (ne_of_none hb hm)]; exact s7 _ _ hb
            · rw [upd_same]
              have := tab_set (fun i => pP one other k i + if k ≤ i ∧ i < k + j then SerM.co one k * SerM.co other (i - k) else 0) (one.length + other.length) (k + j) (pP one other k (k + j) + (if k ≤ k + j ∧ k + j < k + j then SerM.co one k * SerM.co other (k + j - k) else 0) + SerM.co one k * SerM.co other j)
              refine congrArg (fun z => some (HO.lst z)) (this.trans ?_)
              congr 1
              refine tab_eq fun i hi => ?_
              by_cases e : i = k + j
              · subst e
                rw [if_pos rfl, if_neg (by omega), if_pos (by omega), show k + j - k = j by omega]; omega
              · rw [if_neg e]
                by_cases e2 : k ≤ i ∧ i < k + j
                · rw [if_pos e2, if_pos (by omega)]
                · rw [if_neg e2, if_neg (by omega)]
        · rintro σ H6 ⟨⟨v5, v6, v7, rfl⟩, s6, hm6⟩
          refine ⟨⟨_, _, _, _, _, rfl⟩, s6, ?_⟩
          rw [hm6]
          congr 3
          refine tab_eq fun i hi => ?_
          rw [pP_step hk', List.length_map]
          by_cases e : k ≤ i ∧ i < k + other.length
          · rw [if_pos e, if_pos e.1]
          · rw [if_neg e]
            by_cases e2 : k ≤ i
            · rw [if_pos e2, SerM.co_len (p := other) (by omega)]; omega
            · rw [if_neg e2]
      · have t0 : SerM.co one k = 0 := by
          apply Classical.byContradiction
          intro z
          exact cc (by simp [z])
        refine ⟨⟨_, _, _, _, _, rfl⟩, s4, ?_⟩
        rw [hm4]
        congr 3
        refine tab_eq fun i _ => ?_
        rw [pP_step hk', t0]
        split <;> omega
    · rintro σ H3 ⟨⟨v3, v4, v5, v6, v7, rfl⟩, s3, hm3⟩
      rw [List.length_map] at hm3
      refine ⟨_, rfl, q m H3 s3 hm ?_⟩
      rw [hm3]
      congr 3
      exact tab_eq fun i _ => by unfold pP; rw [List.take_length]
end
end Un
namespace Un
open PySem L2 TL
section
variable {P : Program} {w : World} {K : PySem.W.Frag} {mg : Str → Option Value} {base : Heap}
/-! ### sum_of -/
abbrev sSumOf : Stmt := top 16
def spSum (K : PySem.W.Frag) : Sp := fun vs H Q _ => ∃ (a b : Addr) (one other : SerM.Po), vs = [.ref a, .ref b] ∧ SqL K H a (iv one) ∧ SqL K H b (iv other) ∧ one.length ≤ 1000 ∧ other.length ≤ 1000 ∧
  ∀ (m : Addr) (H' : Hp), Same H H' → H m = none → H' m = some (.lst (iv (tab (fun i => SerM.co one i + SerM.co other i) (max one.length other.length)))) → Q (.ref m) H'
theorem scSumOf : FnScope ["one", "other", "made", "k", "value", "_"] ["one", "other"] (defScope sSumOf) := ⟨rfl, rfl, rfl, by decide +kernel, rfl, by decide +kernel, by decide +kernel⟩
theorem ok_sum {f : Addr} {fd : FuncData} (F : Fun K "sum_of" "sum_of" sSumOf f fd) (T : PolT K w mg) : FnOk P w K mg base CX0 1 f fd ["one", "other"] (spSum K) := by
  refine F.ok scSumOf (fun vs H Q E h => ?_) (fun cdv A outer s H vs Q E hr h => ?_)
  · obtain ⟨a, b, one, other, rfl, _⟩ := h
    rfl
  obtain ⟨a, b, one, other, rfl, Ra, Rb, l1, l2, q⟩ := h
  have hsz : 1000000 < sizeLine := by decide
  refine ⟨_, (pss_cons (ps_setLc (i := 2) (own := [("_", 5)]) (g := (gName 5)) rfl scSumOf.nd rfl rfl (sw_true rfl rfl rfl (by decide +kernel)) (pi_range1 (by rfl) T.range (pa_cons (pe_callB (call_max2 rfl) (by rfl) T.max (by decide +kernel) (pa_cons (pe_callB call_len_seq (by rfl) T.len PySem.boot_len (pa_cons (pv 0) pa_nil)) (pa_cons (pe_callB call_len_seq (by rfl) T.len PySem.boot_len (pa_cons (pv 1) pa_nil)) pa_nil))) pa_nil)) (blkOk_by (own := [("_", 5)]) (N := ["one", "other", "made", "k", "value", "_"]) (sc := defScope sSumOf) (by decide +kernel)) (fun _ _ _ _ _ => (pg_name (i := 5) scSumOf.nd rfl (Or.inl rfl) (Or.inr rfl))) (fun _ _ _ _ _ => pts_nil) (fun _ _ _ _ _ => pe_int))
 (pss_cons (ps_for PassesOwn.never rfl (pi_enum (by rfl) T.enum (pa_cons (pv 0) pa_nil)) (pg_tup (by rfl) (pgs_cons (pg_name (i := 3) scSumOf.nd rfl (by first | exact Or.inl rfl | exact Or.inr rfl)) (pgs_cons (pg_name (i := 4) scSumOf.nd rfl (by first | exact Or.inl rfl | exact Or.inr rfl)) pgs_nil)))
 (pss_one (ps_asg (pv 4) (pg_sub (pv 2) (pv 3) set_list))))
 (pss_cons (ps_for PassesOwn.never rfl (pi_enum (by rfl) T.enum (pa_cons (pv 1) pa_nil)) (pg_tup (by rfl) (pgs_cons (pg_name (i := 3) scSumOf.nd rfl (by first | exact Or.inl rfl | exact Or.inr rfl)) (pgs_cons (pg_name (i := 4) scSumOf.nd rfl (by first | exact Or.inl rfl | exact Or.inr rfl)) pgs_nil)))
 (pss_one (ps_asg (pe_op op_add (pe_ix ix_list (pv 2) (pv 3) (fun _ _ => rfl)) (pv 4)) (pg_sub (pv 2) (pv 3) set_list))))
 (pss_one (ps_ret (pv 2)))))), ?_⟩
  have ln : ∀ p : SerM.Po, ((iv p).length : Int) = (p.length : Int) := fun p => by rw [List.length_map]
  have em : (if ((iv other).length : Int) > ((iv one).length : Int) then ((iv other).length : Int) else ((iv one).length : Int)) = ((max one.length other.length : Nat) : Int) := by rw [ln, ln]; split <;> omega
  refine ⟨_, rfl, a, _, rfl, .inl Ra, _, rfl, b, _, rfl, .inl Rb, _, _, rfl, _, rfl, (by rw [em]; omega), (by rw [em]; omega), fun m hm => ?_⟩
  have en : (if ((iv other).length : Int) > ((iv one).length : Int) then ((iv other).length : Int) else ((iv one).length : Int)).toNat = max one.length other.length := by rw [em]; omega
  generalize hM : max one.length other.length = M at *
  refine lc_it (walk_range (lo := 0)) (fun i H2 => Same H H2 ∧ H2 m = some (.lst (iv (tab (fun _ => 0) i)))) ⟨same_upd hm _, by rw [upd_same]; rfl⟩ (fun _ _ _ _ => trivial) (fun i x H2 H3 hi ⟨s3, hm3⟩ ⟨e1, e2⟩ => ?_) (fun H2 ⟨s2, hm2⟩ => ?_)
  · subst e1 e2
    rw [en] at hi
    refine ⟨rfl, _, hm3, by rw [List.length_map, tab_len]; omega, fun o ob hb => ?_, ?_⟩
    · rw [upd_ne (ne_of_none hb hm)]; exact s3 _ _ hb
    · rw [upd_same, show tab (fun _ => 0) (i + 1) = tab (fun _ => 0) i ++ [0] by unfold tab; rw [List.range_succ, List.map_append]; rfl]
      simp [iv]
  · rw [en] at hm2
    have hat : ∀ {g : Nat → Int} {i : Nat} {z : Int}, z = (i : Int) → i < M → atI (iv (tab g M)) z = some (.int (g i)) := fun hz hi => by
      rw [hz]; exact atI_nat (tab_get hi)
    refine ⟨_, rfl, a, _, rfl, s2.seq Ra, ?_⟩
    refine for_it walk_enum (fun k σ H3 => (∃ v3 v4 v5, σ = [some (.ref a), some (.ref b), some (.ref m), v3, v4, v5]) ∧ Same H H3 ∧ H3 m = some (.lst (iv (tab (fun i => if i < k then SerM.co one i else 0) M))))
      ⟨⟨none, none, none, rfl⟩, s2, ?_⟩ (fun k σ H3 _ h => h.2.1.seq Ra) ?_ ?_
    · rw [hm2]
      congr 3
    · rintro k v σ H3 H4 hk ⟨⟨v3, v4, v5, rfl⟩, s3, hm3⟩ ⟨t, y, z, rfl, ht, rfl, hy, hz⟩
      cases hy
      obtain ⟨hk', rfl⟩ := iv_get hz
      have tm : m ≠ t := ne_of_none hm3 ht
      have s4 := s3.trans (same_upd ht (.tup [.int (k : Nat), .int (SerM.co one k)]))
      have hm4 : upd H3 t (.tup [.int (k : Nat), .int (SerM.co one k)]) m = _ := (upd_ne tm).trans hm3
      refine ⟨t, _, rfl, SqT.of upd_same, rfl, _, _, rfl, _, _, rfl, rfl, ?_⟩
      generalize upd H3 t (.tup [.int (k : Nat), .int (SerM.co one k)]) = H5 at s4 hm4 ⊢
      refine ⟨_, rfl, _, rfl, _, rfl, m, _, _, k, rfl, rfl, hm4, ixN_nat (by rw [List.length_map, tab_len]; omega) rfl, ⟨_, _, _, rfl⟩, fun o ob hb => ?_, ?_⟩
      · rw [upd_ne (ne_of_none hb hm)]; exact s4 _ _ hb
      · rw [upd_same, tab_set]
        congr 3
        exact tab_eq fun i _ => by
          by_cases e : i = k
          · subst e; rw [if_pos rfl, if_pos (by omega)]
          · rw [if_neg e]
            by_cases e2 : i < k
            · rw [if_pos e2, if_pos (by omega)]
            · rw [if_neg e2, if_neg (by omega)]
    · rintro σ H3 ⟨⟨v3, v4, v5, rfl⟩, s3, hm3⟩
      rw [List.length_map] at hm3
      refine ⟨_, rfl, b, _, rfl, s3.seq Rb, ?_⟩
      refine for_it walk_enum (fun k σ H4 => (∃ v3 v4 v5, σ = [some (.ref a), some (.ref b), some (.ref m), v3, v4, v5]) ∧ Same H H4 ∧ H4 m = some (.lst (iv (tab (fun i => SerM.co one i + if i < k then SerM.co other i else 0) M))))
        ⟨⟨_, _, _, rfl⟩, s3, ?_⟩ (fun k σ H4 _ h => h.2.1.seq Rb) ?_ ?_
      · rw [hm3]
        congr 3
        exact tab_eq fun i _ => by
          rw [if_neg (show ¬ i < 0 by omega)]
          by_cases e : i < one.length
          · rw [if_pos e]; omega
          · rw [if_neg e, SerM.co_len (by omega)]; rfl
      · rintro k v σ H4 H5 hk ⟨⟨v3, v4, v5, rfl⟩, s4, hm4⟩ ⟨t, y, z, rfl, ht, rfl, hy, hz⟩
        cases hy
        obtain ⟨hk', rfl⟩ := iv_get hz
        have tm : m ≠ t := ne_of_none hm4 ht
        have s5 := s4.trans (same_upd ht (.tup [.int (k : Nat), .int (SerM.co other k)]))
        have hm5 : upd H4 t (.tup [.int (k : Nat), .int (SerM.co other k)]) m = _ := (upd_ne tm).trans hm4
        refine ⟨t, _, rfl, SqT.of upd_same, rfl, _, _, rfl, _, _, rfl, rfl, ?_⟩
        generalize upd H4 t (.tup [.int (k : Nat), .int (SerM.co other k)]) = H6 at s5 hm5 ⊢
        refine ⟨_, rfl, _, rfl, m, _, _, _, rfl, rfl, SqL.of hm5, hat (i := k) rfl (by omega), _, rfl, _, _, rfl, rfl, _, rfl, _, rfl, m, _, _, k, rfl, rfl, hm5, ixN_nat (by rw [List.length_map, tab_len]; omega) rfl, ⟨_, _, _, rfl⟩, fun o ob hb => ?_, ?_⟩
        · rw [upd_ne (ne_of_none hb hm)]; exact s5 _ _ hb
        · rw [upd_same]
          refine congrArg (fun z => some (HO.lst z)) ((tab_set _ _ _ _).trans ?_)
          congr 1
          exact tab_eq fun i _ => by
            by_cases e : i = k
            · subst e; rw [if_pos rfl, if_neg (by omega), if_pos (by omega)]; omega
            · rw [if_neg e]
              by_cases e2 : i < k
              · rw [if_pos e2, if_pos (by omega)]
              · rw [if_neg e2, if_neg (by omega)]
      · rintro σ H4 ⟨⟨v3, v4, v5, rfl⟩, s4, hm4⟩
        rw [List.length_map] at hm4
        refine ⟨_, rfl, q m H4 s4 hm ?_⟩
        rw [hm4]
        congr 3
        exact tab_eq fun i _ => by
          by_cases e : i < other.length
          · rw [if_pos e]
          · rw [if_neg e, SerM.co_len (p := other) (by omega)]
end
end Un
namespace Un
open PySem L2 TL
section
variable {P : Program} {w : World} {K : PySem.W.Frag} {mg : Str → Option Value} {base : Heap}
/-! ### reduced -/
abbrev sReduced : Stmt := top 24
/-- what is asked of a top and a bottom, and that u, v is their reduced form -/
structure RedIn (p q : SerM.Po) (c : Nat) : Prop where
  l1 : p.length ≤ 90
  l2 : q.length ≤ 90
  c1 : ∀ i, (SerM.co p i).natAbs < 2 ^ c
  c2 : ∀ i, (SerM.co q i).natAbs < 2 ^ c
  c9 : c ≤ 8900
  sm : ∃ P Q A m A2 m2 Bd, SerM.Sml p q P Q A m A2 m2 Bd ∧ Bd ≤ 4490
def spReduced (K : PySem.W.Frag) : Sp := fun vs H Q _ => ∃ (x y : V) (p q : SerM.Po) (c : Nat), vs = [x, y] ∧ RowV K H x p ∧ RowV K H y q ∧ RedIn p q c ∧
  ∀ (u v : SerM.Po), SerM.Red p q u v → ∀ (t a b : Addr) (H' : Hp), Same H H' → H' t = some (.tup [.ref a, .ref b]) → H' a = some (.lst (iv u)) → H' b = some (.lst (iv v)) → H a = none → H b = none → Q (.ref t) H'
theorem scReduced : FnScope ["top", "bottom", "upper", "lower", "ahead", "left", "right"] ["top", "bottom"] (defScope sReduced) := ⟨rfl, rfl, rfl, by decide +kernel, rfl, by decide +kernel, by decide +kernel⟩
theorem rep_one (k : Nat) : (List.replicate k [V.int 0]).flatten = List.replicate k (V.int 0) := by
  induction k with
  | zero => rfl
  | succ k ih => rw [List.replicate_succ, List.flatten_cons, ih]; rfl
theorem iv_zp (k : Nat) (l : SerM.Po) : iv (SerM.zp k l) = List.replicate k (V.int 0) ++ iv l := by
  induction k with
  | zero => rfl
  | succ k ih =>
    show V.int 0 :: iv (SerM.zp k l) = _
    rw [ih]; rfl
theorem zp_len (k : Nat) (q : SerM.Po) : (SerM.zp k q).length = k + q.length := by
  induction k with
  | zero => show q.length = _; omega
  | succ k ih => show (SerM.zp k q).length + 1 = _; omega
theorem zp_of {p : SerM.Po} {k : Nat} (hk : k ≤ p.length) (h : ∀ i, i < k → SerM.co p i = 0) : p = SerM.zp k (p.drop k) := by
  refine SerM.co_ext ?_ fun i => ?_
  · rw [zp_len, List.length_drop]; omega
  · by_cases lt : i < k
    · have z : ∀ (k i : Nat) (q : SerM.Po), i < k → SerM.co (SerM.zp k q) i = 0 := fun k => by
        induction k with
        | zero => intro i q h; omega
        | succ k ih =>
          intro i q h
          cases i with
          | zero => rfl
          | succ i => exact ih i q (by omega)
      rw [h i lt, z k i _ lt]
    · obtain ⟨j, rfl⟩ : ∃ j, i = k + j := ⟨i - k, by omega⟩
      rw [SerM.co_zp, SerM.co_drop]
theorem rb_lead {row : SerM.Po} (h : SerM.Tm row) (ne : row ≠ []) {r B : Nat} (r2 : 2 ≤ r) (hB : r + 2 ≤ B) (hr : ∀ j, 1 ≤ j → j ≤ row.length - 1 → rbAt row j ≤ (r : Int) - 2) : SerM.Dom row (row.length - 1) (2 ^ B) := by
  have l := SerM.tm_lead h ne
  refine SerM.roots_dom (rb := r) l (fun j j1 j2 => ?_) r2 hB
  have := hr j j1 j2
  unfold rbAt at this
  rwa [l.at_] at this
theorem RowV.same {H H' : Hp} {x : V} {p : SerM.Po} (s : Same H H') (h : RowV K H x p) : RowV K H' x p := by
  obtain ⟨a, rfl, h | h⟩ := h
  · exact ⟨a, rfl, .inl (s.seq h)⟩
  · refine ⟨a, rfl, .inr ?_⟩
    rcases h with (h | ⟨o, h⟩) | h
    · exact .inl (.inl (s _ _ h))
    · exact .inl (.inr ⟨o, s _ _ h⟩)
    · exact .inr h
theorem ok_reduced {f g1 g2 g3 : Addr} {fd d1 d2 d3 : FuncData} (F : Fun K "reduced" "reduced" sReduced f fd) (T : PolT K w mg) (GT : Df P w K mg base 1 g1 d1 "trimmed" ["row"] (spTrimmed K)) (GO : Df P w K mg base 1 g2 d2 "order_of" ["row"] (spOrderOf K)) (GC : Df P w K mg base 3 g3 d3 "cancelled" ["one", "other"] (spCanc K)) : FnOk P w K mg base CX0 4 f fd ["top", "bottom"] (spReduced K) := by
  refine F.ok scReduced (fun vs H Q E h => ?_) (fun cdv A outer s H vs Q E hr h => ?_)
  · obtain ⟨x, y, p, q, c, rfl, _⟩ := h
    rfl
  obtain ⟨x, y, p, q, c, rfl, Rx, Ry, I, qq⟩ := h
  obtain ⟨P', Q', A', m', A2, m2, Bd, S, hBd⟩ := I.sm
  have hsz : 1000000 < sizeLine := by decide
  refine ⟨_, (pss_cons (ps_set (i := 2) scReduced.nd rfl (by first | exact Or.inl rfl | exact Or.inr rfl) (pe_call GT.ok (hr.mono (by decide)) (by rfl) GT.m GT.kp GT.b .nil pass0 (pa_cons (pv 0) pa_nil)))
 (pss_cons (ps_set (i := 3) scReduced.nd rfl (by first | exact Or.inl rfl | exact Or.inr rfl) (pe_call GT.ok (hr.mono (by decide)) (by rfl) GT.m GT.kp GT.b .nil pass0 (pa_cons (pv 1) pa_nil)))
 (pss_cons (ps_if (pt_not (pt_truth (pv 2) (by intro _; rfl)))
 (pss_one (ps_ret (pe_tup (pa_cons (pe_lst pa_nil) (pa_cons (pe_lst (pa_cons pe_int pa_nil)) pa_nil)))))
 pss_nil)
 (pss_cons (ps_set (i := 4) scReduced.nd rfl (by first | exact Or.inl rfl | exact Or.inr rfl) (pe_call GO.ok (hr.mono (by decide)) (by rfl) GO.m GO.kp GO.b .nil pass0 (pa_cons (pv 2) pa_nil)))
 (pss_cons (ps_if (PW.pt (pw_or (pt_cmpR op_eq (pe_callB call_len_seq (by rfl) T.len PySem.boot_len (pa_cons (pv 2) pa_nil)) (pe_op op_add (pv 4) pe_int) (nomark _)) (pw_or1 (pt_cmpR op_eq (pe_callB call_len_seq (by rfl) T.len PySem.boot_len (pa_cons (pv 3) pa_nil)) pe_int (nomark _)))))
 (pss_one (ps_ret (pe_tup (pa_cons (pv 2) (pa_cons (pv 3) pa_nil)))))
 pss_nil)
 (pss_cons (ps_asg (pe_call GC.ok (hr.mono (by decide)) (by rfl) GC.m GC.kp GC.b .nil pass0 (pa_cons (pe_slice sl_list (pv 2) (po_some (pv 4)) po_none) (pa_cons (pv 3) pa_nil))) (pg_tup (by rfl) (pgs_cons (pg_name (i := 5) scReduced.nd rfl (by first | exact Or.inl rfl | exact Or.inr rfl)) (pgs_cons (pg_name (i := 6) scReduced.nd rfl (by first | exact Or.inl rfl | exact Or.inr rfl)) pgs_nil))))
 (pss_one (ps_ret (pe_tup (pa_cons (pe_op op_cat (pe_op op_rep (pe_lst (pa_cons pe_int pa_nil)) (pv 4)) (pv 5)) (pa_cons (pv 6) pa_nil))))))))))), ?_⟩
  have I1 := I.l1
  have I2 := I.l2
  refine ⟨x, rfl, x, p, rfl, Rx, by omega, fun b1 H1 s1 hb1 h1 => ?_⟩
  have Ry1 : RowV K H1 y q := Ry.same s1
  refine ⟨y, rfl, y, q, rfl, Ry1, by omega, fun b2 H2 s2 hb2 h2 => ?_⟩
  have s12 := s1.trans s2
  have h1' := s2 _ _ h1
  have hb2' : H b2 = none := s1.free hb2
  have tl1 := SerM.trim_len p
  have tl2 := SerM.trim_len q
  refine ⟨_, rfl, _, .inl ⟨_, SqL.of h1', rfl⟩, ?_⟩
  refine ite2 (fun ce => ?_) (fun ce => ?_)
  · have e0 : SerM.trim p = [] := by
      cases e : SerM.trim p with
      | nil => rfl
      | cons z zs => rw [e] at ce; cases ce
    refine ⟨(by show 0 ≤ sizeLine; decide), fun l hl => ⟨(by show 1 ≤ sizeLine; decide), fun l2 hl2 => ⟨(by show 2 ≤ sizeLine; decide), fun t ht => ?_⟩⟩⟩
    have s3 := ((s12.trans (same_upd hl (.lst []))).trans (same_upd hl2 (.lst [V.int 1])))
    refine qq [] [1] (SerM.red_nil e0) t l l2 _ (s3.trans (same_upd ht _)) upd_same ?_ ?_ (s12.free hl) ((s12.trans (same_upd hl (.lst []))).free hl2)
    · have n1 : l ≠ l2 := ne_of_none upd_same hl2
      rw [upd_ne (ne_of_none (by rw [upd_ne n1, upd_same]) ht), upd_ne n1, upd_same]; rfl
    · rw [upd_ne (ne_of_none upd_same ht), upd_same]; rfl
  have ne : SerM.trim p ≠ [] := fun z => by rw [z] at ce; exact ce rfl
  refine ⟨_, rfl, b1, SerM.trim p, rfl, SqL.of h1', fun k H3 s3 hk kn kz => ?_, fun hz => absurd (hz _) (by
    have l := SerM.tm_lead (SerM.trim_tm p) ne
    rw [l.at_]; exact l.ne)⟩
  have s13 := s12.trans s3
  have h13 := s3 _ _ h1'
  have h23 := s3 _ _ h2
  have er := zp_of (Nat.le_of_lt hk) kz
  have rn : (SerM.trim p).drop k ≠ [] := fun z => by
    have := congrArg List.length z
    rw [List.length_drop] at this
    exact absurd this (by show _ ≠ 0; omega)
  have rt : SerM.Tm ((SerM.trim p).drop k) := fun n2 => by
    rw [List.getLast_drop]
    exact SerM.trim_tm p ne
  have plain : SerM.Red p q (SerM.trim p) (SerM.trim q) → ∀ (H4 : Hp), H4 = H3 → tRet (tTup (tCons (tVar 2) (tCons (tVar 3) tNil))) { nx := fun x H' => Q V.non H', rt := Q } [some x, some y, some (.ref b1), some (.ref b2), some (.int (k : Int)), none, none] H4 := fun R H4 e4 => by
    subst e4
    refine ⟨_, rfl, _, rfl, (by show 2 ≤ sizeLine; decide), fun t ht => ?_⟩
    exact qq _ _ R t b1 b2 _ (s13.trans (same_upd ht _)) upd_same (by rw [upd_ne (ne_of_none h13 ht)]; exact h13) (by rw [upd_ne (ne_of_none h23 ht)]; exact h23) hb1 hb2'
  refine ⟨_, rfl, b1, _, rfl, .inl (SqL.of h13), _, rfl, _, _, rfl, rfl, rfl, _, rfl, ?_⟩
  rw [dec_int, List.length_map]
  refine ite2 (fun c1 => ?_) (fun c1 => ?_)
  · have e1 : (SerM.trim p).length = k + 1 := by have := eq_of_beq c1; omega
    obtain ⟨a, ea⟩ : ∃ a, (SerM.trim p).drop k = [a] := by
      have : ((SerM.trim p).drop k).length = 1 := by rw [List.length_drop]; omega
      match (SerM.trim p).drop k, this with
      | [a], _ => exact ⟨a, rfl⟩
    rw [ea] at er
    exact plain (SerM.red_mono S.b1 (fun z => kn (by rw [er]; exact (SerM.co_zp k [a] 0).trans (by rw [z]; rfl))) er) _ rfl
  refine ⟨_, rfl, b2, _, rfl, .inl (SqL.of h23), rfl, _, rfl, ?_⟩
  rw [dec_int, List.length_map]
  refine ite2 (fun c2 => ?_) (fun c2 => ?_)
  · have e1 : (SerM.trim q).length = 1 := by have := eq_of_beq c2; omega
    exact plain (SerM.red_plain S.b1 e1) _ rfl
  refine ⟨_, rfl, _, rfl, _, rfl, b1, _, rfl, SqL.of h13, fun d hd => ?_⟩
  have s4 := s13.trans (same_upd hd (.lst (cutV (iv (SerM.trim p)) (some (k : Int)) none)))
  have ecut : cutV (iv (SerM.trim p)) (some (k : Int)) none = iv ((SerM.trim p).drop k) := by
    unfold cutV
    have e1 : HT.sIx (iv (SerM.trim p)).length 0 (some (k : Int)) = k := by rw [HT.sIx_nat, List.length_map]; omega
    have e2 : HT.sIx (iv (SerM.trim p)).length (iv (SerM.trim p)).length none = (iv (SerM.trim p)).length := rfl
    rw [e1, e2, List.take_of_length_le (by rw [List.length_drop]; omega)]
    exact List.map_drop.symm
  rw [ecut] at s4 ⊢
  have hd4 : upd H3 d (.lst (iv ((SerM.trim p).drop k))) d = some (.lst (iv ((SerM.trim p).drop k))) := upd_same
  have h24 : upd H3 d (.lst (iv ((SerM.trim p).drop k))) b2 = some (.lst (iv (SerM.trim q))) := by rw [upd_ne (ne_of_none h23 hd)]; exact h23
  generalize upd H3 d (.lst (iv ((SerM.trim p).drop k))) = H4 at s4 hd4 h24 ⊢
  have o1 : SerM.ev (SerM.trim q) 0 = 1 := by rw [SerM.trim_ev]; exact S.b1
  have on : SerM.trim q ≠ [] := fun z => by rw [z] at o1; exact absurd o1 (by decide)
  refine ⟨_, rfl, d, b2, (SerM.trim p).drop k, SerM.trim q, c, rfl, SqL.of hd4, SqL.of h24, by rw [List.length_drop]; omega, by rw [List.length_drop]; omega, by omega, o1, fun i => by rw [SerM.co_drop, SerM.trim_co]; exact I.c1 _, fun i => by rw [SerM.trim_co]; exact I.c2 _, by have := I.c9; omega, fun r1 r2 r12 r22 r1c r2c hr1 hr2 => ?_⟩
  have hdom : ∃ n, ∀ B, min r1 r2 + 32 ≤ B → SerM.Dom ((SerM.trim p).drop k) n (2 ^ B) ∨ SerM.Dom (SerM.trim q) n (2 ^ B) := by
    by_cases le : r1 ≤ r2
    · exact ⟨_, fun B hB => .inl (rb_lead rt rn r12 (by omega) hr1)⟩
    · exact ⟨_, fun B hB => .inr (rb_lead (SerM.trim_tm q) on r22 (by omega) hr2)⟩
  obtain ⟨n, hdom⟩ := hdom
  obtain ⟨j, l, r, k1, k2, k3, R⟩ := SerM.sml_canc (bits := min r1 r2 + 32) S er rt rn (by omega) hdom
  have c9 := I.c9
  have sm : (min r1 r2 + 32) * 2 ^ j ≤ 9000 := by
    rcases k3 with rfl | k3
    · rw [Nat.pow_zero]; omega
    · cases j with
      | zero => rw [Nat.pow_zero]; omega
      | succ j =>
        rw [Nat.add_sub_cancel] at k3
        rw [Nat.pow_succ, ← Nat.mul_assoc]
        omega
  refine ⟨j, l, r, ⟨k1, k2, sm⟩, fun t x' y' H5 s5 ht5 hx5 hy5 hx4 hy4 => ?_⟩
  have s45 := s4.trans s5
  refine ⟨t, _, rfl, SqT.of ht5, rfl, _, _, rfl, _, _, rfl, rfl, ?_⟩
  refine ⟨(by show 1 ≤ sizeLine; decide), fun z1 hz1 => ?_⟩
  refine ⟨_, rfl, z1, _, _, rfl, rfl, upd_same, (by omega), (by omega), (by show 1 * _ ≤ _; omega), fun z2 hz2 => ?_⟩
  have hx6 : upd H5 z1 (.lst [V.int 0]) x' = some (.lst (iv l)) := by rw [upd_ne (ne_of_none hx5 hz1)]; exact hx5
  have nx : x' ≠ z2 := ne_of_none hx6 hz2
  have erep : (List.replicate ((k : Int)).toNat [V.int 0]).flatten = List.replicate k (V.int 0) := by
    rw [Int.toNat_natCast]
    exact rep_one k
  have lb : l.length ≤ 200 := by
    have np : SerM.NZ p := by
      obtain ⟨i, hi⟩ := SerM.nz_of (SerM.trim_tm p) ne
      exact ⟨i, by rwa [SerM.trim_co] at hi⟩
    have := SerM.dv_len R.tu np (SerM.red_dv S.b1 R).1
    rw [zp_len] at this
    omega
  rw [erep]
  refine ⟨_, rfl, z2, x', _, _, rfl, rfl, upd_same, (by rw [upd_ne nx]; exact hx6), (by rw [List.length_replicate, List.length_map]; omega), fun z3 hz3 => ?_⟩
  rw [← iv_zp]
  have s6 := (((s45.trans (same_upd hz1 (.lst [V.int 0]))).trans (same_upd hz2 (.lst (List.replicate k (V.int 0))))).trans (same_upd hz3 (.lst (iv (SerM.zp k l)))))
  refine ⟨_, rfl, (by show 2 ≤ sizeLine; decide), fun t2 ht2 => ?_⟩
  refine qq _ _ R t2 z3 y' _ (s6.trans (same_upd ht2 _)) upd_same ?_ ?_ (((s45.trans (same_upd hz1 (.lst [V.int 0]))).trans (same_upd hz2 (.lst (List.replicate k (V.int 0))))).free hz3) (s4.free hy4)
  · rw [upd_ne (ne_of_none upd_same ht2), upd_same]
  · have y1 := (same_upd hz1 (.lst [V.int 0])) _ _ hy5
    have y2 := (same_upd hz2 (.lst (List.replicate k (V.int 0)))) _ _ y1
    have y3 := (same_upd hz3 (.lst (iv (SerM.zp k l)))) _ _ y2
    exact (same_upd ht2 _) _ _ y3
end
end Un
namespace Un
open PySem L2 TL
section
variable {P : Program} {w : World} {K : PySem.W.Frag} {mg : Str → Option Value} {base : Heap}
/-! ### expanded -/
abbrev sExpanded : Stmt := top 25
theorem eR_low {row F : SerM.Po} (F0 : SerM.co F 0 = 1) : ∀ (k i : Nat), i < k → eR row F k i = 0
  | 0, i, h => by omega
  | k + 1, i, h => by
    have ih := eR_low (row := row) F0 k
    rw [eR_step]
    by_cases e : i = k
    · subst e
      rw [if_pos (Nat.le_refl _), Nat.sub_self, F0]; omega
    · rw [if_neg (by omega), ih i (by omega)]; omega
theorem qt_co (row F : SerM.Po) : ∀ (k i : Nat), i < k → SerM.co (SerM.qt row F k) i = eR row F i i
  | 0, i, h => by omega
  | k + 1, i, h => by
    rw [qt_snoc]
    unfold SerM.co
    rw [List.getD_eq_getElem?_getD, List.getElem?_append, SerM.qt_len]
    by_cases e : i < k
    · rw [if_pos e, ← qt_co row F k i e]
      unfold SerM.co
      rw [List.getD_eq_getElem?_getD]
    · rw [if_neg e, show i = k by omega, Nat.sub_self]; rfl
def inn (row F M : SerM.Po) (k j : Nat) : Int := SerM.co row k - SerM.S j fun i => SerM.co F (i + 1) * SerM.co M (k - (i + 1))
theorem inn_end (row F : SerM.Po) (k : Nat) (h1 : 1 ≤ F.length) : inn row F (SerM.qt row F k) k (min (k + 1) F.length - 1) = eR row F k k := by
  unfold inn eR
  have e1 : SerM.co (SerM.mul (SerM.qt row F k) F) k = SerM.co (SerM.mul F (SerM.qt row F k)) k := SerM.co_of_ev 0 (fun x _ => by rw [SerM.ev_mul, SerM.ev_mul, Int.mul_comm]) k
  rw [e1, SerM.co_mul, SerM.S_shift]
  have e2 : SerM.co (SerM.qt row F k) (k - 0) = 0 := SerM.co_len (by rw [SerM.qt_len]; omega)
  rw [e2, Int.mul_zero, Int.zero_add]
  by_cases h : k + 1 ≤ F.length
  · rw [Nat.min_eq_left h, Nat.add_sub_cancel]
  · rw [Nat.min_eq_right (by omega)]
    obtain ⟨d, hd⟩ : ∃ d, k = F.length - 1 + d := ⟨k - (F.length - 1), by omega⟩
    have := SerM.S_more (n := F.length - 1) (g := fun i => SerM.co F (i + 1) * SerM.co (SerM.qt row F k) (k - (i + 1))) d fun j hj => by
      rw [SerM.co_len (p := F) (by omega)]; omega
    rw [← hd] at this
    rw [this]
theorem add_len : ∀ (n : Nat) (a b : SerM.Po), a.length = n → b.length = n → (SerM.add a b).length = n
  | 0, a, b, ha, hb => by
    rw [List.length_eq_zero_iff] at ha hb
    subst ha hb; rfl
  | n + 1, x :: a, y :: b, ha, hb => congrArg (· + 1) (add_len n a b (by simpa using ha) (by simpa using hb))
/-- two quotients that are equal have the same row -/
theorem qt_uniq {u v p q : SerM.Po} (v0 : SerM.ev v 0 = 1) (q0 : SerM.ev q 0 = 1) (h : ∀ x, SerM.ev u x * SerM.ev q x = SerM.ev p x * SerM.ev v x) (n : Nat) : SerM.qt u v n = SerM.qt p q n := by
  have split : ∀ {r : SerM.Po}, (∀ i, i < n → SerM.co r i = 0) → ∀ x, SerM.ev r x = SerM.ev (SerM.zp n (r.drop n)) x := fun {r} hr x => SerM.ev_of_co (fun i => by
    by_cases lt : i < n
    · have z : ∀ (k i : Nat) (q : SerM.Po), i < k → SerM.co (SerM.zp k q) i = 0 := fun k => by
        induction k with
        | zero => intro i q h; omega
        | succ k ih =>
          intro i q h
          cases i with
          | zero => rfl
          | succ i => exact ih i q (by omega)
      rw [hr i lt, z n i _ lt]
    · obtain ⟨j, rfl⟩ : ∃ j, i = n + j := ⟨i - n, by omega⟩
      rw [SerM.co_zp, SerM.co_drop]) x
  have rest : ∀ {row F : SerM.Po}, SerM.ev F 0 = 1 → ∃ R : SerM.Po, ∀ x, SerM.ev row x - SerM.ev (SerM.qt row F n) x * SerM.ev F x = x ^ n * SerM.ev R x := fun {row F} F1 => by
    have F0 : SerM.co F 0 = 1 := by rw [SerM.co0_ev]; exact F1
    refine ⟨(SerM.add row (SerM.smul (-1) (SerM.mul (SerM.qt row F n) F))).drop n, fun x => ?_⟩
    have := split (r := SerM.add row (SerM.smul (-1) (SerM.mul (SerM.qt row F n) F))) (fun i hi => by
      have := eR_low (row := row) F0 n i hi
      unfold eR at this
      rw [SerM.co_add, SerM.co_smul]; omega) x
    rw [SerM.ev_add, SerM.ev_smul, SerM.ev_mul, SerM.ev_zp] at this
    omega
  obtain ⟨R1, h1⟩ := rest (row := u) v0
  obtain ⟨R2, h2⟩ := rest (row := p) q0
  have key := SerM.drop_z n (P := SerM.add (SerM.qt p q n) (SerM.smul (-1) (SerM.qt u v n))) (r := SerM.add (SerM.mul R1 q) (SerM.smul (-1) (SerM.mul R2 v))) (Q := [1]) (o := SerM.mul v q) (by rw [SerM.ev_mul, v0, q0]; rfl) fun x => by
    have a1 := h1 x
    have a2 := h2 x
    have a3 := h x
    rw [SerM.ev_zp, SerM.ev_add, SerM.ev_smul, SerM.ev_mul, SerM.ev_mul, SerM.ev_add, SerM.ev_smul, SerM.ev_mul]
    show x ^ n * _ * (1 + x * 0) = _
    have b1 : x ^ n * SerM.ev R1 x * SerM.ev q x = (SerM.ev u x - SerM.ev (SerM.qt u v n) x * SerM.ev v x) * SerM.ev q x := by rw [a1]
    have b2 : x ^ n * SerM.ev R2 x * SerM.ev v x = (SerM.ev p x - SerM.ev (SerM.qt p q n) x * SerM.ev q x) * SerM.ev v x := by rw [a2]
    grind
  have hd : (SerM.add (SerM.qt p q n) (SerM.smul (-1) (SerM.qt u v n))).drop n = [] := by
    rw [List.drop_eq_nil_iff, add_len n _ _ (SerM.qt_len _ _ _) (by unfold SerM.smul; rw [List.length_map, SerM.qt_len])]
    exact Nat.le_refl _
  rw [hd] at key
  have W0 : ∀ x, SerM.ev (SerM.add (SerM.mul R1 q) (SerM.smul (-1) (SerM.mul R2 v))) x = 0 := fun x => by
    have := key x
    have e1 : SerM.ev ([1] : SerM.Po) x = 1 := by show 1 + x * 0 = (1 : Int); omega
    rw [e1] at this
    have e2 : SerM.ev ([] : SerM.Po) x = 0 := rfl
    rw [e2] at this
    omega
  refine SerM.co_ext (by rw [SerM.qt_len, SerM.qt_len]) fun i => ?_
  refine SerM.co_of_ev 0 (fun x _ => ?_) i
  refine SerM.ev_cancel (p := SerM.mul v q) (SerM.nz_of1 (by rw [SerM.ev_mul, v0, q0]; rfl)) (fun x => ?_) x
  have a0 := W0 x
  rw [SerM.ev_add, SerM.ev_smul, SerM.ev_mul, SerM.ev_mul] at a0
  have a1 := h1 x
  have a2 := h2 x
  have a3 := h x
  rw [SerM.ev_mul]
  have b1 : x ^ n * SerM.ev R1 x * SerM.ev q x = (SerM.ev u x - SerM.ev (SerM.qt u v n) x * SerM.ev v x) * SerM.ev q x := by rw [a1]
  have b2 : x ^ n * SerM.ev R2 x * SerM.ev v x = (SerM.ev p x - SerM.ev (SerM.qt p q n) x * SerM.ev q x) * SerM.ev v x := by rw [a2]
  have b3 : x ^ n * SerM.ev R1 x * SerM.ev q x = x ^ n * SerM.ev R2 x * SerM.ev v x := by
    have : SerM.ev R1 x * SerM.ev q x = SerM.ev R2 x * SerM.ev v x := by omega
    rw [Int.mul_assoc, this, Int.mul_assoc]
  grind
def spExpanded (K : PySem.W.Frag) : Sp := fun vs H Q _ => ∃ (a b : Addr) (p q : SerM.Po) (n : Nat) (c : Nat), vs = [.ref a, .ref b, .int (n : Int)] ∧ SqL K H a (iv p) ∧ SqL K H b (iv q) ∧ 1 ≤ q.length ∧ p.length ≤ 1000 ∧ q.length ≤ 1000 ∧ n ≤ 1001 ∧ (∀ i, (SerM.co p i).natAbs < 2 ^ c) ∧ (∀ i, (SerM.co q i).natAbs < 2 ^ c) ∧ c ≤ 9000 ∧
  ∀ (m : Addr) (H' : Hp), Same H H' → H m = none → H' m = some (.lst (iv (SerM.qt p q n))) → Q (.ref m) H'
theorem scExpanded : FnScope ["top", "bottom", "length", "made", "k", "value", "j"] ["top", "bottom", "length"] (defScope sExpanded) := ⟨rfl, rfl, rfl, by decide +kernel, rfl, by decide +kernel, by decide +kernel⟩
theorem ok_expanded {f : Addr} {fd : FuncData} (F : Fun K "expanded" "expanded" sExpanded f fd) (T : PolT K w mg) : FnOk P w K mg base CX0 1 f fd ["top", "bottom", "length"] (spExpanded K) := by
  refine F.ok scExpanded (fun vs H Q E h => ?_) (fun cdv A outer s H vs Q E hr h => ?_)
  · obtain ⟨a, b, p, q, n, c, rfl, _⟩ := h
    rfl
  obtain ⟨a, b, p, q, n, c, rfl, Ra, Rb, q1, pl, ql, hn, hc1, hc2, c9, qq⟩ := h
  have hsz : 1000000 < sizeLine := by decide
  refine ⟨_, (pss_cons (ps_set (i := 3) scExpanded.nd rfl (by first | exact Or.inl rfl | exact Or.inr rfl) (pe_lst pa_nil))
 (pss_cons (ps_for PassesOwn.never rfl (pi_range1 (by rfl) T.range (pa_cons (pv 2) pa_nil)) (pg_name (i := 4) scExpanded.nd rfl (by first | exact Or.inl rfl | exact Or.inr rfl))
 (C8.pss_cut (ps_set (i := 5) scExpanded.nd rfl (by first | exact Or.inl rfl | exact Or.inr rfl) (pe_ifExp (pt_cmpR op_lt (pv 4) (pe_callB call_len_seq (by rfl) T.len PySem.boot_len (pa_cons (pv 0) pa_nil)) (nomark _)) (pe_ix ix_list (pv 0) (pv 4) (fun _ _ => rfl)) pe_int))
 (pss_cons (ps_for PassesOwn.never rfl (pi_range2 (by rfl) T.range (pa_cons pe_int (pa_cons (pe_callB (call_min2 rfl) (by rfl) T.min (by decide +kernel) (pa_cons (pe_op op_add (pv 4) pe_int) (pa_cons (pe_callB call_len_seq (by rfl) T.len PySem.boot_len (pa_cons (pv 1) pa_nil)) pa_nil))) pa_nil))) (pg_name (i := 6) scExpanded.nd rfl (by first | exact Or.inl rfl | exact Or.inr rfl))
 (pss_one (ps_set (i := 5) scExpanded.nd rfl (by first | exact Or.inl rfl | exact Or.inr rfl) (pe_op op_sub (pv 5) (pe_op op_mulX (pe_ix ix_list (pv 1) (pv 6) (fun _ _ => rfl)) (pe_ix ix_list (pv 3) (pe_op op_sub (pv 4) (pv 6)) (fun _ _ => rfl)))))))
 (pss_one (ps_expr (pe_bm PySem.F.plainAttrs_list PySem.F.slot_list_append PySem.F.type_list_append mt_append (pv 3) (pa_cons (pv 5) pa_nil)))))))
 (pss_one (ps_ret (pv 3))))), ?_⟩
  refine ⟨(by show 0 ≤ sizeLine; decide), fun m hm => ?_⟩
  have s1 := same_upd hm (.lst [])
  refine ⟨_, rfl, _, rfl, (by omega), (by omega), ?_⟩
  refine for_it (walk_range (lo := 0)) (fun k σ H2 => (∃ v4 v5 v6, σ = [some (.ref a), some (.ref b), some (.int (n : Int)), some (.ref m), v4, v5, v6]) ∧ Same H H2 ∧ H2 m = some (.lst (iv (SerM.qt p q k))))
    ⟨⟨none, none, none, rfl⟩, s1, upd_same⟩ (fun _ _ _ _ _ => trivial) ?_ ?_
  · rintro k v σ H2 H3 hk ⟨⟨v4, v5, v6, rfl⟩, s2, hm2⟩ ⟨rfl, rfl⟩
    have hk' : k < n := by omega
    have ek : (0 : Int) + (k : Int) = (k : Int) := by omega
    show gName 4 (V.int (0 + (k : Int))) _ H3 _
    rw [ek]
    refine ⟨fun σ' H' => (∃ v6, σ' = [some (.ref a), some (.ref b), some (.int (n : Int)), some (.ref m), some (.int (k : Int)), some (.int (SerM.co p k)), v6]) ∧ H' = H3, ?_, ?_⟩
    · refine ⟨_, rfl, _, rfl, a, _, rfl, .inl (s2.seq Ra), _, _, rfl, rfl, _, rfl, ?_⟩
      rw [List.length_map]
      refine ite2 (fun cc => ?_) (fun cc => ?_)
      · have kp : k < p.length := by have := of_decide_eq_true cc; omega
        refine ⟨_, rfl, _, rfl, a, _, _, _, rfl, rfl, s2.seq Ra, atI_nat (iv_at kp), ?_⟩
        exact ⟨⟨_, rfl⟩, rfl⟩
      · have kp : p.length ≤ k := Nat.le_of_not_lt fun z => cc (decide_eq_true (by omega))
        refine ⟨⟨v6, ?_⟩, rfl⟩
        rw [SerM.co_len kp]; rfl
    rintro σ' H' ⟨⟨v6, rfl⟩, rfl⟩
    have eh : (if ((iv q).length : Int) < (k : Int) + 1 then ((iv q).length : Int) else (k : Int) + 1) = ((min (k + 1) q.length : Nat) : Int) := by rw [List.length_map]; split <;> omega
    refine ⟨_, rfl, _, _, rfl, rfl, _, rfl, b, _, rfl, .inl (s2.seq Rb), _, _, rfl, 1, _, rfl, ?_⟩
    rw [eh]
    refine ⟨⟨by decide, by decide, by omega, by omega⟩, ?_⟩
    have en : (((min (k + 1) q.length : Nat) : Int) - 1).toNat = min (k + 1) q.length - 1 := by omega
    refine for_it (walk_range (lo := 1)) (fun j σ H4 => (∃ v6, σ = [some (.ref a), some (.ref b), some (.int (n : Int)), some (.ref m), some (.int (k : Int)), some (.int (inn p q (SerM.qt p q k) k j)), v6]) ∧ H4 = H')
      ⟨⟨v6, ?_⟩, rfl⟩ (fun _ _ _ _ _ => trivial) ?_ ?_
    · show _ = [_, _, _, _, _, some (V.int (SerM.co p k - 0)), _]
      rw [Int.sub_zero]
    · rintro j v σ H4 H5 hj ⟨⟨v6, rfl⟩, rfl⟩ ⟨rfl, rfl⟩
      rw [en] at hj
      have e1 : (1 : Int) + (j : Int) = ((j + 1 : Nat) : Int) := by omega
      show gName 6 (V.int (1 + (j : Int))) _ H5 _
      rw [e1]
      have e2 : (k : Int) - ((j + 1 : Nat) : Int) = ((k - (j + 1) : Nat) : Int) := by omega
      have jq : j + 1 < q.length := by omega
      have hmk : (iv (SerM.qt p q k))[k - (j + 1)]? = some (.int (SerM.co (SerM.qt p q k) (k - (j + 1)))) := iv_at (by rw [SerM.qt_len]; omega)
      refine ⟨_, rfl, _, rfl, _, rfl, b, _, _, _, rfl, rfl, s2.seq Rb, atI_nat (iv_at jq), _, rfl, _, rfl, _, rfl, _, _, rfl, rfl, m, _, _, _, rfl, rfl, SqL.of hm2, (by rw [e2]; exact atI_nat hmk), ?_⟩
      refine ⟨_, _, rfl, rfl, ?_, _, _, rfl, rfl, ⟨some (.int ((j + 1 : Nat) : Int)), ?_⟩, rfl⟩
      · have b1 := bits_le (hc2 (j + 1))
        have b2 := bits_le (eR_bd hc1 hc2 (k - (j + 1)) (k - (j + 1)))
        rw [qt_co p q k (k - (j + 1)) (by omega)]
        have b3 := Nat.mul_le_mul (show k - (j + 1) ≤ 1001 by omega) (show c + 1 ≤ 9001 by omega)
        show (_ : Int) + _ ≤ 134217728
        generalize (k - (j + 1)) * (c + 1) = zz at *
        omega
      · show [_, _, _, _, _, some (V.int (inn p q (SerM.qt p q k) k j - SerM.co q (j + 1) * SerM.co (SerM.qt p q k) (k - (j + 1)))), _] = _
        rw [show inn p q (SerM.qt p q k) k (j + 1) = inn p q (SerM.qt p q k) k j - SerM.co q (j + 1) * SerM.co (SerM.qt p q k) (k - (j + 1)) by
          unfold inn
          show _ - (SerM.S j _ + SerM.co q (j + 1) * SerM.co (SerM.qt p q k) (k - (j + 1))) = _
          omega]
    · rintro σ H4 ⟨⟨v6, rfl⟩, rfl⟩
      rw [en, inn_end p q k q1]
      refine ⟨_, rfl, .inl ⟨rfl, _, SqL.of hm2⟩, _, rfl, m, _, _, rfl, rfl, hm2, (by rw [List.length_map, SerM.qt_len]; omega), ?_⟩
      have eqt : iv (SerM.qt p q k) ++ [V.int (eR p q k k)] = iv (SerM.qt p q (k + 1)) := by rw [qt_snoc]; simp [iv]
      rw [eqt]
      refine ⟨⟨_, _, _, rfl⟩, fun o ob hb => ?_, upd_same⟩
      rw [upd_ne (ne_of_none hb hm)]; exact s2 _ _ hb
  · rintro σ H2 ⟨⟨v4, v5, v6, rfl⟩, s2, hm2⟩
    rw [Int.toNat_natCast] at hm2
    exact ⟨_, rfl, qq m H2 s2 hm hm2⟩
end
end Un
namespace Un
open PySem L2 TL
section
variable {P : Program} {w : World} {K : PySem.W.Frag} {mg : Str → Option Value} {base : Heap}
end
end Un
namespace L2
open PySem PySem.Spec PyProof.Rows
section
variable {X : Cx}
theorem PI.or {tg l : Expr} {t1 t2 : TI} (h1 : PI X tg l t1) (h2 : PI X tg l t2) : PI X tg l (fun σ H R => t1 σ H R ∨ t2 σ H R) :=
  ⟨fun pins s σ H R I h => h.elim (fun q => h1.run pins s σ H R I q) fun q => h2.run pins s σ H R I q⟩
/-- o.f = .. as a target -/
def gFld (K : PySem.W.Frag) (ta : TE) (f : Str) : TG := fun v σ H Q => ta σ H fun x H1 => ∃ a C dx fs, x = .ref a ∧ H1 a = some (.ins C dx fs) ∧ Cls K C ∧ NoAttr K C f ∧ fs.length < 1000 ∧ Q σ (upd H1 a (.ins C dx (putF f v fs)))
theorem pg_fld {o : Expr} {f : Str} {ta : TE} {pos : Pos} (ho : PE X o ta)
    (he : ∀ v, assign (.Attribute o f pos) X.env v = (holding [v] (eval o X.env) >>= fun ov => standAt pos.atName >>= fun _ => holding [v, ov] (setAttr ov f v) >>= fun _ => release [v, ov] []) := by intro _; rfl) : PG X (.Attribute o f pos) (gFld X.K ta f) := by
  refine ⟨fun pins s σ H v u Q I r h => ?_⟩
  rw [he]
  refine wpAny_bind (wpAny_holding (thn (ho.run pins s σ H _ I h) fun ov s1 ⟨x, H1, I1, r1, a, C, dx, fs, ex, ea, c, n, l, q⟩ => ?_))
  subst ex
  obtain rfl : ov = Value.ref a := r1
  exact wpAny_bind (wpAny_standAt (wpAny_bind (wpAny_holding (setattr_ok I1 ea c n l r fun s2 I2 => wpAny_release ⟨σ, _, I2, q⟩))))
end
end L2
namespace Un
open PySem L2 TL
section
variable {P : Program} {w : World} {K : PySem.W.Frag} {mg : Str → Option Value} {base : Heap}
/-! ### series -/
structure SerT (mg : Str → Option Value) : Prop where
  isi : mg "isinstance" = none
  list : mg "list" = none
  tuple : mg "tuple" = none
  all : mg "all" = none
theorem RowV.ty {H : Hp} {x : V} {p : SerM.Po} (h : RowV K H x p) : TyX K H x (.type "list") ∨ TyX K H x (.type "tuple") := by
  obtain ⟨a, rfl, h | h⟩ := h
  · rcases h with (h | ⟨o, h⟩) | ⟨o, its, n, h1, h2, _⟩
    · exact .inl (.base (.lst h))
    · exact .inl (.base (.frz h))
    · exact .inl (.kList h1 h2)
  · rcases h with (h | ⟨o, h⟩) | ⟨o, its, n, h1, h2, _⟩
    · exact .inr (.base (.tup h))
    · exact .inr (.fTuple h)
    · exact .inr (.kTuple h1 h2)
theorem RowV.kit {H : Hp} {x : V} {p : SerM.Po} (h : RowV K H x p) : ∃ t : String, TyX K H x (.type t) ∧ PySem.W.kitAny K (.type t) [.type "list", .type "tuple"] = some true := by
  rcases h.ty with h | h
  · exact ⟨_, h, kitLT (r1 := true) (r2 := false) (by decide +kernel) (by decide +kernel)⟩
  · exact ⟨_, h, kitLT (r1 := false) (r2 := true) (by decide +kernel) (by decide +kernel)⟩
theorem RowV.tru {H : Hp} {x : V} {p : SerM.Po} (h : RowV K H x p) : TruV K x H (!p.isEmpty) := by
  obtain ⟨a, rfl, h | h⟩ := h
  · exact .inl ⟨_, h, by cases p <;> rfl⟩
  · exact .inr (.inl ⟨_, h, by cases p <;> rfl⟩)
abbrev sIsRow : Stmt := top 28
def spIsRow (K : PySem.W.Frag) : Sp := fun vs H Q _ => ∃ (x : V) (p : SerM.Po), vs = [x] ∧ RowV K H x p ∧ p.length ≤ 1000 ∧ ∀ H', Same H H' → Q (.bl true) H'
theorem scIsRow : FnScope ["value", "item"] ["value"] (defScope sIsRow) := ⟨rfl, rfl, rfl, by decide +kernel, rfl, by decide +kernel, by decide +kernel⟩
theorem ok_isRow {f g : Addr} {fd gd : FuncData} (F : Fun K "is_row" "is_row" sIsRow f fd) (T : SerT mg) (GI : Df P w K mg base 1 g gd "is_integer" ["value"] (spInteger K)) : FnOk P w K mg base CX0 2 f fd ["value"] (spIsRow K) := by
  refine F.ok scIsRow (fun vs H Q E h => ?_) (fun cdv A outer s H vs Q E hr h => ?_)
  · obtain ⟨x, p, rfl, _⟩ := h
    rfl
  obtain ⟨x, p, rfl, R, hl, q⟩ := h
  have hsz : 1000000 < sizeLine := by decide
  refine ⟨_, (pss_one (ps_ret (pe_and (pe_callB call_isiT (by rfl) T.isi (by decide +kernel) (pa_cons (pv 0) (pa_cons (pe_tup (pa_cons (pe_bltn (v := .ty "list") (by rfl) T.list (by decide +kernel) rfl) (pa_cons (pe_bltn (v := .ty "tuple") (by rfl) T.tuple (by decide +kernel) rfl) pa_nil))) pa_nil))) (pe_one (pe_callB (cr_all rfl) (by rfl) T.all (by decide +kernel) (pa_cons (pe_lc (own := [("item", 1)]) (g := (gName 1)) rfl scIsRow.nd (PI.or (pi_list (pv 0)) (pi_tup (pv 0))) (blkOk_by (own := [("item", 1)]) (N := ["value", "item"]) (sc := defScope sIsRow) (by decide +kernel)) (fun _ _ _ _ _ => (pg_name (i := 1) scIsRow.nd rfl (Or.inl rfl) (Or.inr rfl))) (fun _ _ _ _ _ => pts_nil) (fun _ _ _ _ _ => (pe_call GI.ok (hr.mono (by decide)) (by rfl) GI.m GI.kp GI.b .nil pass0 (pa_cons (pv 1) pa_nil)))) pa_nil)))))), ?_⟩
  have hz : ([V.ty "list", V.ty "tuple"] : List V).length ≤ sizeLine := by show 2 ≤ sizeLine; decide
  refine ⟨x, rfl, hz, fun t ht => ?_⟩
  have s1 := same_upd ht (.tup [.ty "list", .ty "tuple"])
  have R1 := R.same s1
  obtain ⟨k, tk, kk⟩ := R1.kit
  refine ⟨_, t, _, _, [.type "list", .type "tuple"], _, rfl, upd_same, .cons (.ty _) (.cons (.ty _) .nil), tk, kk, ?_⟩
  refine ⟨_, rfl, iteT ?_⟩
  generalize upd H t (.tup [.ty "list", .ty "tuple"]) = H1 at s1 R1 ⊢
  have turn : ∀ (D : Addr), H1 D = none → ∀ (i : Nat) (v : V) (H2 : Hp), i < p.length → (iv p)[i]? = some v → (Same H1 H2 ∧ H2 D = some (.lst (List.replicate i (V.bl true)))) →
      spInteger K [v] H2 (fun z H3 => ∃ acc, H3 D = some (.lst acc) ∧ acc.length < sizeLine ∧ Same H1 (upd H3 D (.lst (acc ++ [z]))) ∧ upd H3 D (.lst (acc ++ [z])) D = some (.lst (List.replicate (i + 1) (V.bl true)))) E0 := fun D hD i v H2 hi hv ⟨s2, h2⟩ => by
    obtain ⟨_, rfl⟩ := iv_get hv
    refine ⟨_, "int", true, false, rfl, .base (.int _), by decide +kernel, by decide +kernel, _, h2, by rw [List.length_replicate]; omega, fun b o hb => ?_, ?_⟩
    · rw [upd_ne (ne_of_none hb hD)]; exact s2 _ _ hb
    · rw [upd_same, List.replicate_succ']; rfl
  have last : ∀ (D : Addr) (H2 : Hp), Same H1 H2 → H2 D = some (.lst (List.replicate p.length (V.bl true))) → rAll K [.ref D] H2 Q := fun D H2 s2 h2 => by
    refine ⟨D, List.replicate p.length true, rfl, SqL.of (by rw [h2, List.map_replicate]), ?_⟩
    have e : (List.replicate p.length true).all id = true := by rw [List.all_eq_true]; intro b hb; exact (List.mem_replicate.mp hb).2
    rw [e]
    exact q H2 (s1.trans s2)
  obtain ⟨a, rfl, R | R⟩ := R1
  · refine .inl ⟨_, rfl, a, rfl, ⟨_, R⟩, fun D hD => ?_⟩
    refine lc_it (walk_list (K := K) (xs := iv p)) (fun i H2 => Same H1 H2 ∧ H2 D = some (.lst (List.replicate i (V.bl true)))) ⟨same_upd hD _, upd_same⟩ (fun i H2 _ h => h.1.seq R) (fun i v H2 H3 hi h hv => ?_) fun H2 h => ?_
    · obtain ⟨rfl, hv⟩ := hv
      rw [List.length_map] at hi
      exact ⟨rfl, _, rfl, turn D hD i v H3 hi hv h⟩
    · rw [List.length_map] at h
      exact last D H2 h.1 h.2
  · refine .inr ⟨_, rfl, a, rfl, ⟨_, R⟩, fun D hD => ?_⟩
    refine lc_it (walk_tup (K := K) (xs := iv p)) (fun i H2 => Same H1 H2 ∧ H2 D = some (.lst (List.replicate i (V.bl true)))) ⟨same_upd hD _, upd_same⟩ (fun i H2 _ h => sameT h.1 R) (fun i v H2 H3 hi h hv => ?_) fun H2 h => ?_
    · obtain ⟨rfl, hv⟩ := hv
      rw [List.length_map] at hi
      exact ⟨rfl, _, rfl, turn D hD i v H3 hi hv h⟩
    · rw [List.length_map] at h
      exact last D H2 h.1 h.2
end
end Un
namespace Un
open PySem L2 TL
section
variable {P : Program} {w : World} {K : PySem.W.Frag} {mg : Str → Option Value} {base : Heap}
/-! ### the class Series -/
abbrev sSeries : Stmt := top 34
abbrev sS_init : Stmt := inClass sSeries 0
abbrev sS_top : Stmt := inClass sSeries 2
abbrev sS_bottom : Stmt := inClass sSeries 3
abbrev sS_bool : Stmt := inClass sSeries 17
structure SerC (K : PySem.W.Frag) (C : Addr) : Prop where
  cl : Cls K C
  t : NoAttr K C "_top"
  b : NoAttr K C "_bottom"
  o : NoAttr K C "order"
def OrdV (u : SerM.Po) (z : V) : Prop := (∃ k : Nat, k < u.length ∧ SerM.co u k ≠ 0 ∧ (∀ i, i < k → SerM.co u i = 0) ∧ z = .int k) ∨ ((∀ i, SerM.co u i = 0) ∧ z = .non)
abbrev serFs (x y : Addr) (z : V) : List (Str × V) := [("_top", .ref x), ("_bottom", .ref y), ("order", z)]
/-- the series u / v stands at a -/
def SerAt (H : Hp) (C a : Addr) (u v : SerM.Po) : Prop := ∃ (dx x y : Addr) (z : V), H a = some (.ins C dx (serFs x y z)) ∧ H x = some (.lst (iv u)) ∧ H y = some (.lst (iv v)) ∧ OrdV u z
theorem SerAt.same {H H' : Hp} {C a : Addr} {u v : SerM.Po} (s : Same H H') (h : SerAt H C a u v) : SerAt H' C a u v := by
  obtain ⟨dx, x, y, z, h1, h2, h3, h4⟩ := h
  exact ⟨dx, x, y, z, s _ _ h1, s _ _ h2, s _ _ h3, h4⟩
theorem iv_bag {H : Hp} {b c x : Addr} {u : SerM.Po} (B : Bag H b c) (h : H x = some (.lst (iv u))) : x ≠ b := fun e => by
  subst e
  obtain ⟨ns, p, r, s, k, B⟩ := B
  have := B.lb.symm.trans h
  cases u with
  | nil => cases this
  | cons z zs => cases this
theorem SerAt.kp {H H' : Hp} {C a b c : Addr} {u v : SerM.Po} (B : Bag H b c) (k : Kp b H H') (h : SerAt H C a u v) : SerAt H' C a u v := by
  obtain ⟨dx, x, y, z, h1, h2, h3, h4⟩ := h
  have na : a ≠ b := fun e => by
    subst e
    obtain ⟨ns, p, r, s, k, B⟩ := B
    have := B.lb.symm.trans h1
    cases this
  exact ⟨dx, x, y, z, k _ _ h1 na, k _ _ h2 (iv_bag B h2), k _ _ h3 (iv_bag B h3), h4⟩
/-- .. and its two lists are new -/
def SerNew (H H' : Hp) (C a : Addr) (u v : SerM.Po) : Prop := ∃ (dx x y : Addr) (z : V), H' a = some (.ins C dx (serFs x y z)) ∧ H' x = some (.lst (iv u)) ∧ H' y = some (.lst (iv v)) ∧ OrdV u z ∧ H x = none ∧ H y = none
theorem SerNew.at_ {H H' : Hp} {C a : Addr} {u v : SerM.Po} (h : SerNew H H' C a u v) : SerAt H' C a u v := by
  obtain ⟨dx, x, y, z, h1, h2, h3, h4, _⟩ := h
  exact ⟨dx, x, y, z, h1, h2, h3, h4⟩
theorem SerNew.on {H H' H'' : Hp} {C a : Addr} {u v : SerM.Po} (h : SerNew H H' C a u v) (ha : H a = none) (e : ∀ b, H b = none → H'' b = H' b) : SerAt H'' C a u v := by
  obtain ⟨dx, x, y, z, h1, h2, h3, h4, h5, h6⟩ := h
  exact ⟨dx, x, y, z, by rw [e a ha]; exact h1, by rw [e x h5]; exact h2, by rw [e y h6]; exact h3, h4⟩
def spSerI (K : PySem.W.Frag) (C : Addr) : Sp := fun vs H Q _ => ∃ (a dx : Addr) (x y : V) (p q : SerM.Po) (c : Nat), vs = [.ref a, x, y] ∧ H a = some (.ins C dx []) ∧ RowV K H x p ∧ RowV K H y q ∧ RedIn p q c ∧
  ∀ (u v : SerM.Po) (H' : Hp), SerM.Red p q u v → (∀ b o, b ≠ a → H b = some o → H' b = some o) → SerNew H H' C a u v → Q .non H'
abbrev serPs : List Str := ["self", "top", "bottom"]
theorem scS_init : FnScope ["self", "top", "bottom"] ["self", "top", "bottom"] (defScope sS_init) := ⟨rfl, rfl, rfl, by decide +kernel, rfl, by decide +kernel, by decide +kernel⟩
theorem ok_serI {f C g1 g2 g3 : Addr} {fd d1 d2 d3 : FuncData} {dvs : List V} (F : FunD K "__init__" "Series.__init__" (defArgs sS_init) (defBody sS_init) (defScope sS_init) dvs [] f fd) (C' : SerC K C) (GW : Df P w K mg base 2 g1 d1 "is_row" ["value"] (spIsRow K)) (GR : Df P w K mg base 4 g2 d2 "reduced" ["top", "bottom"] (spReduced K)) (GO : Df P w K mg base 1 g3 d3 "order_of" ["row"] (spOrderOf K)) :
    FnOk P w K mg base CX0 5 f fd serPs (spSerI K C) := by
  refine F.ok scS_init (fun vs H Q E h => ?_) (fun cdv A outer s H vs Q E hr h => ?_)
  · obtain ⟨a, dx, x, y, p, q, c, rfl, _⟩ := h
    rfl
  obtain ⟨a, dx, x, y, p, q, c, rfl, ha, Rx, Ry, I, qq⟩ := h
  refine ⟨_, (pss_cons (ps_if (PW.pt (pw_or (pt_not (pt_val (pe_call GW.ok (hr.mono (by decide)) (by rfl) GW.m GW.kp GW.b .nil pass0 (pa_cons (pv 1) pa_nil)))) (pw_or (pt_not (pt_val (pe_call GW.ok (hr.mono (by decide)) (by rfl) GW.m GW.kp GW.b .nil pass0 (pa_cons (pv 2) pa_nil)))) (pw_or (pt_not (pt_truth (pv 2) (by intro _; rfl))) (pw_or1 (pt_cmpR op_ne (pe_ix ix_seq (pv 2) pe_int (fun _ _ => rfl)) pe_int (nomark _)))))))
 pss_never
 pss_nil)
 (pss_cons (ps_asg (pe_call GR.ok (hr.mono (by decide)) (by rfl) GR.m GR.kp GR.b .nil pass0 (pa_cons (pv 1) (pa_cons (pv 2) pa_nil))) (pg_tup (by rfl) (pgs_cons (pg_fld (pv 0)) (pgs_cons (pg_fld (pv 0)) pgs_nil))))
 (pss_one (ps_fld (pv 0) (pe_call GO.ok (hr.mono (by decide)) (by rfl) GO.m GO.kp GO.b .nil pass0 (pa_cons (pe_fld (pv 0) rfl) pa_nil)) rfl)))), ?_⟩
  have I1 := I.l1
  have I2 := I.l2
  obtain ⟨P', Q', A', m', A2, m2, Bd, S, hBd⟩ := I.sm
  refine ⟨x, rfl, x, p, rfl, Rx, by omega, fun H1 s1 => ?_⟩
  refine ⟨_, rfl, iteF ?_⟩
  refine ⟨y, rfl, y, q, rfl, Ry.same s1, by omega, fun H2 s2' => ?_⟩
  refine ⟨_, rfl, iteF ?_⟩
  have s2 := s1.trans s2'
  have Ry2 := Ry.same s2
  have q0 : SerM.co q 0 = 1 := by rw [SerM.co0_ev]; exact S.b1
  have ql : 0 < q.length := Nat.pos_of_ne_zero fun z => by
    rw [List.length_eq_zero_iff.mp z, SerM.co_nil] at q0; omega
  refine ⟨y, rfl, _, Ry2.tru, ?_⟩
  have qe : q.isEmpty = false := by cases q <;> first | rfl | exact absurd ql (Nat.not_lt_zero _)
  rw [qe]
  refine iteF ?_
  refine ⟨y, rfl, ?_⟩
  refine Ry2.ix (i := 0) rfl ql ⟨rfl, _, rfl, ?_⟩
  rw [q0]
  refine iteF ?_
  have ha2 := s2 _ _ ha
  refine ⟨x, rfl, y, rfl, x, y, p, q, c, rfl, Rx.same s2, Ry2, I, fun u v R t tx ty H3 s3 ht hx hy hx0 hy0 => ?_⟩
  have ha3 := s3 _ _ ha2
  have nx : tx ≠ a := fun e => by rw [e, ha2] at hx0; cases hx0
  have ny : ty ≠ a := fun e => by rw [e, ha2] at hy0; cases hy0
  refine ⟨t, _, rfl, SqT.of ht, rfl, _, _, rfl, _, rfl, a, C, dx, _, rfl, ha3, C'.cl, C'.t, (by show (0 : Nat) < 1000; decide), ?_⟩
  refine ⟨_, _, rfl, _, rfl, a, C, dx, _, rfl, upd_same, C'.cl, C'.b, (by show (1 : Nat) < 1000; decide), rfl, ?_⟩
  refine ⟨_, rfl, a, C, dx, _, _, rfl, upd_same, C'.cl, C'.t, rfl, ?_⟩
  have hx5 : upd (upd H3 a (.ins C dx (putF "_top" (.ref tx) []))) a (.ins C dx (putF "_bottom" (.ref ty) (putF "_top" (.ref tx) []))) tx = some (.lst (iv u)) := by rw [upd_ne nx, upd_ne nx]; exact hx
  have hy5 : upd (upd H3 a (.ins C dx (putF "_top" (.ref tx) []))) a (.ins C dx (putF "_bottom" (.ref ty) (putF "_top" (.ref tx) []))) ty = some (.lst (iv v)) := by rw [upd_ne ny, upd_ne ny]; exact hy
  have hk : ∀ b o, b ≠ a → H b = some o → upd (upd H3 a (.ins C dx (putF "_top" (.ref tx) []))) a (.ins C dx (putF "_bottom" (.ref ty) (putF "_top" (.ref tx) []))) b = some o := fun b o n hb => by rw [upd_ne n, upd_ne n]; exact s3 _ _ (s2 _ _ hb)
  have ha5 : upd (upd H3 a (.ins C dx (putF "_top" (.ref tx) []))) a (.ins C dx (putF "_bottom" (.ref ty) (putF "_top" (.ref tx) []))) a = some (.ins C dx (putF "_bottom" (.ref ty) (putF "_top" (.ref tx) []))) := upd_same
  generalize upd (upd H3 a (.ins C dx (putF "_top" (.ref tx) []))) a (.ins C dx (putF "_bottom" (.ref ty) (putF "_top" (.ref tx) []))) = H5 at hx5 hy5 hk ha5 ⊢
  have fin : ∀ (z : V) (H6 : Hp), Same H5 H6 → OrdV u z → Q .non (upd H6 a (.ins C dx (putF "order" z (putF "_bottom" (.ref ty) (putF "_top" (.ref tx) []))))) := fun z H6 s6 oz => by
    refine qq u v _ R (fun b o n hb => ?_) ⟨dx, tx, ty, z, upd_same, ?_, ?_, oz, s2.free hx0, s2.free hy0⟩
    · rw [upd_ne n]; exact s6 _ _ (hk b o n hb)
    · rw [upd_ne nx]; exact s6 _ _ hx5
    · rw [upd_ne ny]; exact s6 _ _ hy5
  refine ⟨tx, u, rfl, SqL.of hx5, fun k H6 s6 k1 k2 k3 => ?_, fun hz H6 s6 => ?_⟩
  · exact ⟨_, rfl, a, C, dx, _, rfl, s6 _ _ ha5, C'.cl, C'.o, (by show (2 : Nat) < 1000; decide), fin _ H6 s6 (.inl ⟨k, k1, k2, k3, rfl⟩)⟩
  · exact ⟨_, rfl, a, C, dx, _, rfl, s6 _ _ ha5, C'.cl, C'.o, (by show (2 : Nat) < 1000; decide), fin _ H6 s6 (.inr ⟨hz, rfl⟩)⟩
/-! ### top, bottom, bool -/
def spTopM (C : Addr) : Sp := fun vs H Q _ => ∃ (a : Addr) (u v : SerM.Po), vs = [.ref a] ∧ SerAt H C a u v ∧ ∀ l, H l = none → Q (.ref l) (upd H l (.lst (iv u)))
def spBotM (C : Addr) : Sp := fun vs H Q _ => ∃ (a : Addr) (u v : SerM.Po), vs = [.ref a] ∧ SerAt H C a u v ∧ ∀ l, H l = none → Q (.ref l) (upd H l (.lst (iv v)))
theorem scS_top : FnScope ["self"] ["self"] (defScope sS_top) := ⟨rfl, rfl, rfl, by decide +kernel, rfl, by decide +kernel, by decide +kernel⟩
theorem scS_bottom : FnScope ["self"] ["self"] (defScope sS_bottom) := ⟨rfl, rfl, rfl, by decide +kernel, rfl, by decide +kernel, by decide +kernel⟩
theorem ok_serTop {f C : Addr} {fd : FuncData} (F : Fun K "top" "Series.top" sS_top f fd) (C' : SerC K C) (T : SerT mg) : FnOk P w K mg base CX0 1 f fd ["self"] (spTopM C) := by
  refine F.ok scS_top (fun vs H Q E h => ?_) (fun cdv A outer s H vs Q E hr h => ?_)
  · obtain ⟨a, u, v, rfl, _⟩ := h
    rfl
  obtain ⟨a, u, v, rfl, ⟨dx, x, y, z, h1, h2, h3, h4⟩, q⟩ := h
  exact ⟨_, (pss_one (ps_ret (pe_callTy call_list_of (by rfl) T.list (by decide +kernel) (pa_cons (pe_fld (pv 0) rfl) pa_nil)))), _, rfl, a, C, dx, _, _, rfl, h1, C'.cl, C'.t, rfl, x, _, rfl, .inl (SqL.of h2), q⟩
theorem ok_serBottom {f C : Addr} {fd : FuncData} (F : Fun K "bottom" "Series.bottom" sS_bottom f fd) (C' : SerC K C) (T : SerT mg) : FnOk P w K mg base CX0 1 f fd ["self"] (spBotM C) := by
  refine F.ok scS_bottom (fun vs H Q E h => ?_) (fun cdv A outer s H vs Q E hr h => ?_)
  · obtain ⟨a, u, v, rfl, _⟩ := h
    rfl
  obtain ⟨a, u, v, rfl, ⟨dx, x, y, z, h1, h2, h3, h4⟩, q⟩ := h
  exact ⟨_, (pss_one (ps_ret (pe_callTy call_list_of (by rfl) T.list (by decide +kernel) (pa_cons (pe_fld (pv 0) rfl) pa_nil)))), _, rfl, a, C, dx, _, _, rfl, h1, C'.cl, C'.b, rfl, y, _, rfl, .inl (SqL.of h3), q⟩
def spBoolM (C : Addr) : Sp := fun vs H Q _ => ∃ (a : Addr) (u v : SerM.Po), vs = [.ref a] ∧ SerAt H C a u v ∧ SerM.Tm u ∧ Q (.bl (!u.isEmpty)) H
theorem scS_bool : FnScope ["self"] ["self"] (defScope sS_bool) := ⟨rfl, rfl, rfl, by decide +kernel, rfl, by decide +kernel, by decide +kernel⟩
theorem ok_serBool {f C : Addr} {fd : FuncData} (F : Fun K "__bool__" "Series.__bool__" sS_bool f fd) (C' : SerC K C) : FnOk P w K mg base CX0 1 f fd ["self"] (spBoolM C) := by
  refine F.ok scS_bool (fun vs H Q E h => ?_) (fun cdv A outer s H vs Q E hr h => ?_)
  · obtain ⟨a, u, v, rfl, _⟩ := h
    rfl
  obtain ⟨a, u, v, rfl, ⟨dx, x, y, z, h1, h2, h3, h4⟩, tu, q⟩ := h
  refine ⟨_, (pss_one (ps_ret (pe_cmpR op_notN (pe_fld (pv 0) rfl) pe_non (nomark _)))), _, rfl, a, C, dx, _, _, rfl, h1, C'.cl, C'.o, rfl, rfl, ?_⟩
  rcases h4 with ⟨k, k1, k2, k3, rfl⟩ | ⟨hz, rfl⟩
  · rw [decide_eq_false (fun e => by cases e)]
    have : u.isEmpty = false := by cases u <;> first | rfl | exact absurd k1 (Nat.not_lt_zero _)
    rw [this] at q
    exact q
  · rw [decide_eq_true rfl]
    have : u = [] := Classical.byContradiction fun n => by
      obtain ⟨i, hi⟩ := SerM.nz_of tu n
      exact hi (hz i)
    subst this
    exact q
end
end Un
namespace Un
open PySem L2 TL
section
variable {P : Program} {w : World} {K : PySem.W.Frag} {mg : Str → Option Value} {base : Heap}
end
end Un
namespace L2
open PySem PySem.Spec PyProof.Rows
/-! ### == and != of two lists of whole numbers -/
abbrev ivs (p : List Int) : List V := p.map V.int
def rEqI (K : PySem.W.Frag) : V → V → Hp → VK → Prop := fun x y H Q => ∃ a b p q, x = .ref a ∧ y = .ref b ∧ SqL K H a (ivs p) ∧ SqL K H b (ivs q) ∧ Q (.bl (decide (p = q))) H
def rNeI (K : PySem.W.Frag) : V → V → Hp → VK → Prop := fun x y H Q => ∃ a b p q, x = .ref a ∧ y = .ref b ∧ SqL K H a (ivs p) ∧ SqL K H b (ivs q) ∧ Q (.bl (!decide (p = q))) H
theorem dp_ivs {K : PySem.W.Frag} {H : Hp} : ∀ p : List Int, DpAll K H (ivs p) (p.map PyData.int)
  | [] => .nil
  | _ :: r => .cons (.int _) (dp_ivs r)
theorem eqv_ivs : ∀ p q : List Int, PyData.eqvAll (p.map PyData.int) (q.map PyData.int) = decide (p = q)
  | [], [] => by simp [PyData.eqvAll]
  | [], _ :: _ => by simp [PyData.eqvAll]
  | _ :: _, [] => by simp [PyData.eqvAll]
  | x :: p, y :: q => by
    rw [List.map_cons, List.map_cons, PyData.eqvAll, PyData.eqv, eqv_ivs p q]
    by_cases h : x = y <;> by_cases g : p = q <;> simp [h, g]
theorem shp_ivs (p : List Int) : SeqAt.shaped (.list (p.map PyData.int)) = true := by
  have h1 : ∀ p : List Int, PyData.canLayAll0 (p.map PyData.int) = true := fun p => by
    induction p with
    | nil => rfl
    | cons x p ih => rw [List.map_cons, PyData.canLayAll0, ih]; rfl
  have h2 : ∀ p : List Int, PyData.depthAll (p.map PyData.int) ≤ 5 := fun p => by
    induction p with
    | nil => exact Nat.zero_le _
    | cons x p ih => rw [List.map_cons, PyData.depthAll]; exact Nat.max_le.mpr ⟨by rw [PyData.depth]; decide, ih⟩
  have h3 := h2 p
  unfold SeqAt.shaped
  rw [PyData.canLay0, h1, PyData.depth, decide_eq_true (by omega)]
  rfl
section
variable {X : Cx}
theorem op_eqI (hu : X.A.units + 64 < cLine) : OpR X (compareOp .Eq) (rEqI X.K) := by
  intro pins s σ H x y v u Q I rx ry h
  obtain ⟨a, b, p, q, rfl, rfl, ha, hb, h⟩ := h
  refine op_eqD hu pins s σ H _ _ v u Q I rx ry ⟨_, _, .lst ha (dp_ivs p), .lst hb (dp_ivs q), shp_ivs p, shp_ivs q, ?_⟩
  rw [PyData.eqv, eqv_ivs]; exact h
theorem op_neI (hu : X.A.units + 64 < cLine) : OpR X (compareOp .NotEq) (rNeI X.K) := by
  intro pins s σ H x y v u Q I rx ry h
  obtain ⟨a, b, p, q, rfl, rfl, ha, hb, h⟩ := h
  refine op_neD hu pins s σ H _ _ v u Q I rx ry ⟨_, _, .lst ha (dp_ivs p), .lst hb (dp_ivs q), shp_ivs p, shp_ivs q, ?_⟩
  rw [PyData.eqv, eqv_ivs]; exact h
end
end L2
namespace Un
open PySem L2 TL
section
variable {P : Program} {w : World} {K : PySem.W.Frag} {mg : Str → Option Value} {base : Heap}
/-! ### the law's own polynomials -/
structure LawT (mg : Str → Option Value) : Prop where
  len : mg "len" = none
  list : mg "list" = none
  range : mg "range" = none
  enum : mg "enumerate" = none
  max : mg "max" = none
  min : mg "min" = none
  zip : mg "zip" = none
  all : mg "all" = none
  isi : mg "isinstance" = none
  int : mg "int" = none
  bool : mg "bool" = none
/-- a new list of these numbers comes out, all else stays -/
def Out (H : Hp) (r : SerM.Po) (Q : VK) : Prop := ∀ (m : Addr) (H' : Hp), Same H H' → H m = none → H' m = some (.lst (iv r)) → Q (.ref m) H'
abbrev sLawTrim : Stmt := top 42
def spTrimL (K : PySem.W.Frag) : Sp := fun vs H Q _ => ∃ (a : Addr) (p : SerM.Po), vs = [.ref a] ∧ SqL K H a (iv p) ∧ p.length ≤ 1000 ∧ Out H (SerM.trim p) Q
theorem scLawTrim : FnScope ["_law_cells_here", "_law_found", "_law_k"] ["_law_cells_here"] (defScope sLawTrim) := ⟨rfl, rfl, rfl, by decide +kernel, rfl, by decide +kernel, by decide +kernel⟩
theorem take_last {p : SerM.Po} {l : Nat} (h1 : 1 ≤ l) (h2 : l ≤ p.length) : p.take l = p.take (l - 1) ++ [SerM.co p (l - 1)] := by
  obtain ⟨k, rfl⟩ : ∃ k, l = k + 1 := ⟨l - 1, by omega⟩
  rw [Nat.add_sub_cancel, List.take_add_one, List.getElem?_eq_getElem (by omega)]
  unfold SerM.co
  rw [List.getD_eq_getElem?_getD, List.getElem?_eq_getElem (by omega)]; rfl
theorem take_at {p : SerM.Po} {l : Nat} (h1 : 1 ≤ l) (h2 : l ≤ p.length) : atI (iv (p.take l)) (-1) = some (.int (SerM.co p (l - 1))) := by
  rw [take_last h1 h2]
  show atI (List.map V.int (_ ++ _)) _ = _
  rw [List.map_append]
  exact atI_last _ _
theorem take_cut {p : SerM.Po} {l : Nat} (h1 : 1 ≤ l) (h2 : l ≤ p.length) : cutV (iv (p.take l)) none (some (-1)) = iv (p.take (l - 1)) := by
  unfold cutV
  have e1 : HT.sIx (iv (p.take l)).length 0 none = 0 := rfl
  have e2 : HT.sIx (iv (p.take l)).length (iv (p.take l)).length (some (-1)) = l - 1 := by
    show (if (-1 : Int) < 0 then ((-1 : Int) + ((iv (p.take l)).length : Int)).toNat else min (-1 : Int).toNat (iv (p.take l)).length) = _
    rw [if_pos (by decide), List.length_map, List.length_take]; omega
  rw [e1, e2, List.drop_zero, Nat.sub_zero]
  show (List.map V.int (p.take l)).take (l - 1) = List.map V.int (p.take (l - 1))
  rw [← List.map_take, List.take_take, Nat.min_eq_left (by omega)]
theorem ok_trimL {f : Addr} {fd : FuncData} (F : Fun K "_law_trim" "_law_trim" sLawTrim f fd) (T : LawT mg) : FnOk P w K mg base CX0 1 f fd ["_law_cells_here"] (spTrimL K) := by
  refine F.ok scLawTrim (fun vs H Q E h => ?_) (fun cdv A outer s H vs Q E hr h => ?_)
  · obtain ⟨a, p, rfl, _⟩ := h
    rfl
  obtain ⟨a, p, rfl, R, hl, q⟩ := h
  have hsz : 1000000 < sizeLine := by decide
  refine ⟨_, (pss_cons (ps_set (i := 1) scLawTrim.nd rfl (by first | exact Or.inl rfl | exact Or.inr rfl) (pe_callTy call_list_of (by rfl) T.list (by decide +kernel) (pa_cons (pv 0) pa_nil)))
 (pss_cons (ps_for PassesOwn.never rfl (pi_range1 (by rfl) T.range (pa_cons (pe_callB call_len_seq (by rfl) T.len PySem.boot_len (pa_cons (pv 0) pa_nil)) pa_nil)) (pg_name (i := 2) scLawTrim.nd rfl (by first | exact Or.inl rfl | exact Or.inr rfl))
 (C8.pss_cut (ps_if (pt_cmpR op_eq (pe_ix ix_list (pv 1) (pe_un un_neg pe_int) (fun _ _ => rfl)) pe_int (nomark _))
 (pss_one (ps_set (i := 1) scLawTrim.nd rfl (by first | exact Or.inl rfl | exact Or.inr rfl) (pe_slice sl_list (pv 1) po_none (po_some (pe_un un_neg pe_int)))))
 pss_nil)
 (pss_one (ps_if (pt_cmpR (op_eqI hr.units) (pv 1) (pe_lst pa_nil) (nomark _))
 (pss_one (ps_ret (pe_lst pa_nil)))
 pss_nil))))
 (pss_one (ps_ret (pv 1))))), ?_⟩
  refine ⟨_, rfl, a, _, rfl, .inl R, fun x hx => ?_⟩
  have s1 := same_upd hx (.lst (iv p))
  refine ⟨_, rfl, a, _, rfl, .inl (s1.seq R), _, rfl, (by rw [List.length_map]; omega), (by rw [List.length_map]; omega), ?_⟩
  rw [List.length_map]
  have good : ∀ (m : Addr) (l : Nat) (H2 : Hp), Same H H2 → H m = none → H2 m = some (.lst (iv (p.take l))) → l ≤ p.length → (∀ j, l ≤ j → SerM.co p j = 0) → (l = 0 ∨ SerM.co p (l - 1) ≠ 0) → Q (.ref m) H2 := fun m l H2 s2 hm h2 hlp hz h => by
    rw [take_trim hlp hz h] at h2
    exact q m H2 s2 hm h2
  refine for_it (walk_range (lo := 0)) (fun i σ H2 => ∃ (m : Addr) (l : Nat) (v2 : Option V), σ = [some (.ref a), some (.ref m), v2] ∧ Same H H2 ∧ H m = none ∧ H2 m = some (.lst (iv (p.take l))) ∧ l ≤ p.length ∧ (∀ j, l ≤ j → SerM.co p j = 0) ∧ (1 ≤ l ∨ p.length = 0) ∧ (l + i ≤ p.length ∨ (1 ≤ l ∧ SerM.co p (l - 1) ≠ 0)))
    ⟨x, p.length, none, rfl, s1, hx, by rw [upd_same, List.take_length], Nat.le_refl _, fun j hj => SerM.co_len hj, by omega, .inl (Nat.le_refl _)⟩ (fun _ _ _ _ _ => trivial) ?_ ?_
  · rintro i v σ H2 H3 hi ⟨m, l, v2, rfl, s2, hm, h2, hlp, hz, h1, hp⟩ ⟨rfl, rfl⟩
    have hi' : i < p.length := by omega
    have l1 : 1 ≤ l := h1.elim id fun z => by omega
    refine ⟨fun σ' H' => ∃ (m : Addr) (l : Nat), σ' = [some (.ref a), some (.ref m), some (.int (0 + (i : Int)))] ∧ Same H H' ∧ H m = none ∧ H' m = some (.lst (iv (p.take l))) ∧ l ≤ p.length ∧ (∀ j, l ≤ j → SerM.co p j = 0) ∧ (l + (i + 1) ≤ p.length ∨ (1 ≤ l ∧ SerM.co p (l - 1) ≠ 0)), ?_, ?_⟩
    · refine ⟨_, rfl, _, rfl, m, _, _, _, rfl, rfl, SqL.of h2, take_at l1 hlp, rfl, _, rfl, ?_⟩
      rw [dec_int]
      refine ite2 (fun c => ?_) (fun c => ?_)
      · have z : SerM.co p (l - 1) = 0 := eq_of_beq c
        refine ⟨_, rfl, _, rfl, _, rfl, m, _, rfl, SqL.of h2, fun d hd => ?_⟩
        rw [take_cut l1 hlp]
        refine ⟨d, l - 1, rfl, s2.trans (same_upd hd _), s2.free hd, upd_same, by omega, fun j hj => ?_, .inl ?_⟩
        · by_cases e : j = l - 1
          · rw [e]; exact z
          · exact hz j (by omega)
        · rcases hp with h | ⟨_, h⟩
          · omega
          · exact absurd z h
      · have z : SerM.co p (l - 1) ≠ 0 := fun z => c (by rw [z]; rfl)
        exact ⟨m, l, rfl, s2, hm, h2, hlp, hz, .inr ⟨l1, z⟩⟩
    · rintro σ' H' ⟨m, l, rfl, s2, hm, h2, hlp, hz, hp⟩
      refine ⟨_, rfl, (by show 0 ≤ sizeLine; decide), fun z hz0 => ?_⟩
      have s3 := s2.trans (same_upd hz0 (.lst []))
      have h3 : upd H' z (.lst []) m = some (.lst (iv (p.take l))) := by rw [upd_ne (ne_of_none h2 hz0)]; exact h2
      refine ⟨m, z, p.take l, [], rfl, rfl, SqL.of h3, SqL.of upd_same, _, rfl, ?_⟩
      refine ite2 (fun c => ?_) (fun c => ?_)
      · have e : p.take l = [] := of_decide_eq_true c
        have l0 : l = 0 := by
          have := congrArg List.length e
          rw [List.length_take] at this
          have h0 : min l p.length = 0 := this
          omega
        refine ⟨(by show 0 ≤ sizeLine; decide), fun z2 hz2 => ?_⟩
        refine good z2 l _ (s3.trans (same_upd hz2 _)) (s3.free hz2) ?_ hlp hz (.inl l0)
        rw [upd_same, e]; rfl
      · have l1 : 1 ≤ l := Nat.pos_of_ne_zero fun e => c (decide_eq_true (by rw [e]; rfl))
        exact ⟨m, l, _, rfl, s3, hm, h3, hlp, hz, .inl l1, hp⟩
  · rintro σ H2 ⟨m, l, v2, rfl, s2, hm, h2, hlp, hz, h1, hp⟩
    refine ⟨_, rfl, good m l H2 s2 hm h2 hlp hz ?_⟩
    rcases hp with h | ⟨_, h⟩
    · exact .inl (by omega)
    · exact .inr h
end
end Un
namespace Un
open PySem L2 TL
section
variable {P : Program} {w : World} {K : PySem.W.Frag} {mg : Str → Option Value} {base : Heap}
theorem trim_co_ext {p q : SerM.Po} (h : ∀ i, SerM.co p i = SerM.co q i) : SerM.trim p = SerM.trim q := SerM.tm_ext (SerM.trim_tm p) (SerM.trim_tm q) fun i => by rw [SerM.trim_co, SerM.trim_co, h]
theorem tab_trim {g : Nat → Int} {n : Nat} {q : SerM.Po} (h : ∀ i, i < n → g i = SerM.co q i) (hz : ∀ i, n ≤ i → SerM.co q i = 0) : SerM.trim (tab g n) = SerM.trim q := trim_co_ext fun i => by
  by_cases e : i < n
  · rw [tab_co e, h i e]
  · rw [SerM.co_len (by rw [tab_len]; omega), hz i (by omega)]
abbrev sLawTimes : Stmt := top 43
def spTimesL (K : PySem.W.Frag) : Sp := fun vs H Q _ => ∃ (a b : Addr) (one other : SerM.Po) (c : Nat), vs = [.ref a, .ref b] ∧ SqL K H a (iv one) ∧ SqL K H b (iv other) ∧ one.length ≤ 400 ∧ other.length ≤ 400 ∧ (∀ i, (SerM.co one i).natAbs < 2 ^ c) ∧ (∀ i, (SerM.co other i).natAbs < 2 ^ c) ∧ c ≤ 100000 ∧ Out H (SerM.trim (SerM.mul one other)) Q
theorem scLawTimes : FnScope ["_law_one", "_law_other", "_law_found", "_law_at", "_law_a", "_law_k", "_law_b"] ["_law_one", "_law_other"] (defScope sLawTimes) := ⟨rfl, rfl, rfl, by decide +kernel, rfl, by decide +kernel, by decide +kernel⟩
theorem ok_timesL {f g : Addr} {fd gd : FuncData} (F : Fun K "_law_times" "_law_times" sLawTimes f fd) (T : LawT mg) (GT : Df P w K mg base 1 g gd "_law_trim" ["_law_cells_here"] (spTrimL K)) : FnOk P w K mg base CX0 2 f fd ["_law_one", "_law_other"] (spTimesL K) := by
  refine F.ok scLawTimes (fun vs H Q E h => ?_) (fun cdv A outer s H vs Q E hr h => ?_)
  · obtain ⟨a, b, one, other, c, rfl, _⟩ := h
    rfl
  obtain ⟨a, b, one, other, c, rfl, Ra, Rb, l1, l2, hc1, hc2, c9, q⟩ := h
  have hsz : 1000000 < sizeLine := by decide
  refine ⟨_, (pss_cons (ps_set (i := 2) scLawTimes.nd rfl (by first | exact Or.inl rfl | exact Or.inr rfl) (pe_op op_rep (pe_lst (pa_cons pe_int pa_nil)) (pe_op op_add (pe_callB call_len_seq (by rfl) T.len PySem.boot_len (pa_cons (pv 0) pa_nil)) (pe_callB call_len_seq (by rfl) T.len PySem.boot_len (pa_cons (pv 1) pa_nil)))))
 (pss_cons (ps_for PassesOwn.never rfl (pi_enum (by rfl) T.enum (pa_cons (pv 0) pa_nil)) (pg_tup (by rfl) (pgs_cons (pg_name (i := 3) scLawTimes.nd rfl (by first | exact Or.inl rfl | exact Or.inr rfl)) (pgs_cons (pg_name (i := 4) scLawTimes.nd rfl (by first | exact Or.inl rfl | exact Or.inr rfl)) pgs_nil)))
 (pss_one (ps_for PassesOwn.never rfl (pi_enum (by rfl) T.enum (pa_cons (pv 1) pa_nil)) (pg_tup (by rfl) (pgs_cons (pg_name (i := 5) scLawTimes.nd rfl (by first | exact Or.inl rfl | exact Or.inr rfl)) (pgs_cons (pg_name (i := 6) scLawTimes.nd rfl (by first | exact Or.inl rfl | exact Or.inr rfl)) pgs_nil)))
 (pss_one (ps_asg (pe_op op_add (pe_ix ix_list (pv 2) (pe_op op_add (pv 3) (pv 5)) (fun _ _ => rfl)) (pe_op op_mulX (pv 4) (pv 6))) (pg_sub (pv 2) (pe_op op_add (pv 3) (pv 5)) set_list))))))
 (pss_one (ps_ret (pe_call GT.ok (hr.mono (by decide)) (by rfl) GT.m GT.kp GT.b .nil pass0 (pa_cons (pv 2) pa_nil)))))), ?_⟩
  refine ⟨(by show 1 ≤ sizeLine; decide), fun z0 hz0 => ?_⟩
  have s0 := same_upd hz0 (.lst [V.int 0])
  refine ⟨_, rfl, a, _, rfl, .inl (s0.seq Ra), _, rfl, b, _, rfl, .inl (s0.seq Rb), _, _, rfl, rfl, z0, _, _, rfl, rfl, upd_same, (by rw [List.length_map, List.length_map]; omega), (by rw [List.length_map, List.length_map]; omega), (by rw [List.length_map, List.length_map]; show 1 * _ ≤ _; omega), fun m hm' => ?_⟩
  have en : (((iv one).length : Int) + ((iv other).length : Int)).toNat = one.length + other.length := by rw [List.length_map, List.length_map]; omega
  rw [en, rep_one]
  have hm : H m = none := s0.free hm'
  have s2 := s0.trans (same_upd hm' (.lst (List.replicate (one.length + other.length) (V.int 0))))
  have hm2 : upd (upd H z0 (.lst [V.int 0])) m (.lst (List.replicate (one.length + other.length) (V.int 0))) m = some (.lst (iv (tab (fun _ => 0) (one.length + other.length)))) := by
    rw [upd_same]
    congr 2
    unfold tab
    show _ = List.map V.int (List.map _ _)
    rw [List.map_map]
    refine List.ext_getElem (by simp) fun i h1 h2 => by simp
  generalize upd (upd H z0 (.lst [V.int 0])) m (.lst (List.replicate (one.length + other.length) (V.int 0))) = H2 at s2 hm2 ⊢
  refine ⟨_, rfl, a, _, rfl, s2.seq Ra, ?_⟩
  have hat : ∀ {g : Nat → Int} {i : Nat} {z : Int}, z = (i : Int) → i < one.length + other.length → atI (iv (tab g (one.length + other.length))) z = some (.int (g i)) := fun hz hi => by
    rw [hz]; exact atI_nat (tab_get hi)
  refine for_it walk_enum (fun k σ H3 => (∃ v3 v4 v5 v6, σ = [some (.ref a), some (.ref b), some (.ref m), v3, v4, v5, v6]) ∧ Same H H3 ∧ H3 m = some (.lst (iv (tab (pP one other k) (one.length + other.length)))))
    ⟨⟨none, none, none, none, rfl⟩, s2, ?_⟩ (fun k σ H3 _ h => h.2.1.seq Ra) ?_ ?_
  · rw [hm2]
    congr 3
  · rintro k v σ H3 H4 hk ⟨⟨v3, v4, v5, v6, rfl⟩, s3, hm3⟩ ⟨t, y, z, rfl, ht, rfl, hy, hz⟩
    cases hy
    obtain ⟨hk', rfl⟩ := iv_get hz
    have tm : m ≠ t := ne_of_none hm3 ht
    have s4 := s3.trans (same_upd ht (.tup [.int (k : Nat), .int (SerM.co one k)]))
    have hm4 : upd H3 t (.tup [.int (k : Nat), .int (SerM.co one k)]) m = _ := (upd_ne tm).trans hm3
    refine ⟨t, _, rfl, SqT.of upd_same, rfl, _, _, rfl, _, _, rfl, rfl, ?_⟩
    generalize upd H3 t (.tup [.int (k : Nat), .int (SerM.co one k)]) = H5 at s4 hm4 ⊢
    refine ⟨_, rfl, b, _, rfl, s4.seq Rb, ?_⟩
    refine for_it walk_enum (fun j σ H6 => (∃ v5 v6, σ = [some (.ref a), some (.ref b), some (.ref m), some (.int (k : Int)), some (.int (SerM.co one k)), v5, v6]) ∧ Same H H6 ∧ H6 m = some (.lst (iv (tab (fun i => pP one other k i + if k ≤ i ∧ i < k + j then SerM.co one k * SerM.co other (i - k) else 0) (one.length + other.length)))))
      ⟨⟨v5, v6, rfl⟩, s4, ?_⟩ (fun j σ H6 _ h => h.2.1.seq Rb) ?_ ?_
    · rw [hm4]
      congr 3
      exact tab_eq fun i _ => by rw [if_neg (by omega)]; omega
    · rintro j v σ H6 H7 hj ⟨⟨v5, v6, rfl⟩, s6, hm6⟩ ⟨t, y, z, rfl, ht, rfl, hy, hz⟩
      cases hy
      obtain ⟨hj', rfl⟩ := iv_get hz
      have tm : m ≠ t := ne_of_none hm6 ht
      have s7 := s6.trans (same_upd ht (.tup [.int (j : Nat), .int (SerM.co other j)]))
      have hm7 : upd H6 t (.tup [.int (j : Nat), .int (SerM.co other j)]) m = _ := (upd_ne tm).trans hm6
      refine ⟨t, _, rfl, SqT.of upd_same, rfl, _, _, rfl, _, _, rfl, rfl, ?_⟩
      generalize upd H6 t (.tup [.int (j : Nat), .int (SerM.co other j)]) = H8 at s7 hm7 ⊢
      have ij : k + j < one.length + other.length := by omega
      have ei : (k : Int) + (j : Int) = ((k + j : Nat) : Int) := by omega
      refine ⟨_, rfl, _, rfl, _, rfl, _, _, rfl, rfl, m, _, _, _, rfl, rfl, SqL.of hm7, hat (i := k + j) ei ij, ?_⟩
      refine ⟨_, rfl, _, rfl, _, _, rfl, rfl, ?_, _, _, rfl, rfl, _, rfl, _, rfl, _, rfl, _, _, rfl, rfl, m, _, _, k + j, rfl, rfl, hm7, ixN_nat (by rw [List.length_map, tab_len]; exact ij) ei, ?_⟩
      · have b1 := bits_le (hc1 k)
        have b2 := bits_le (hc2 j)
        show (_ : Int) + _ ≤ 134217728
        omega
      · refine ⟨⟨_, _, rfl⟩, fun o ob hb => ?_, ?_⟩
        · rw [upd_ne (ne_of_none hb hm)]; exact s7 _ _ hb
        · rw [upd_same]
          have := tab_set (fun i => pP one other k i + if k ≤ i ∧ i < k + j then SerM.co one k * SerM.co other (i - k) else 0) (one.length + other.length) (k + j) (pP one other k (k + j) + (if k ≤ k + j ∧ k + j < k + j then SerM.co one k * SerM.co other (k + j - k) else 0) + SerM.co one k * SerM.co other j)
          refine congrArg (fun z => some (HO.lst z)) (this.trans ?_)
          congr 1
          refine tab_eq fun i hi => ?_
          by_cases e : i = k + j
          · subst e
            rw [if_pos rfl, if_neg (by omega), if_pos (by omega), show k + j - k = j by omega]; omega
          · rw [if_neg e]
            by_cases e2 : k ≤ i ∧ i < k + j
            · rw [if_pos e2, if_pos (by omega)]
            · rw [if_neg e2, if_neg (by omega)]
    · rintro σ H6 ⟨⟨v5, v6, rfl⟩, s6, hm6⟩
      refine ⟨⟨_, _, _, _, rfl⟩, s6, ?_⟩
      rw [hm6]
      congr 3
      refine tab_eq fun i hi => ?_
      rw [pP_step hk', List.length_map]
      by_cases e : k ≤ i ∧ i < k + other.length
      · rw [if_pos e, if_pos e.1]
      · rw [if_neg e]
        by_cases e2 : k ≤ i
        · rw [if_pos e2, SerM.co_len (p := other) (by omega)]; omega
        · rw [if_neg e2]
  · rintro σ H3 ⟨⟨v3, v4, v5, v6, rfl⟩, s3, hm3⟩
    rw [List.length_map] at hm3
    refine ⟨_, rfl, m, _, rfl, SqL.of hm3, by rw [tab_len]; omega, fun m2 H4 s4 hm2' h4 => ?_⟩
    refine q m2 H4 (s3.trans s4) (s3.free hm2') ?_
    rw [h4]
    congr 3
    refine tab_trim (fun i hi => by unfold pP; rw [List.take_length]) fun i hi => SerM.mul_len0 _ _ _ (by omega)
theorem co_snoc (p : SerM.Po) (t : Int) (i : Nat) : SerM.co (p ++ [t]) i = if i < p.length then SerM.co p i else if i = p.length then t else 0 := by
  unfold SerM.co
  rw [List.getD_eq_getElem?_getD, List.getElem?_append]
  split
  · rw [List.getD_eq_getElem?_getD]
  · rename_i h
    split
    · rename_i e
      rw [e, Nat.sub_self]; rfl
    · rw [List.getElem?_eq_none (by show 1 ≤ _; omega)]; rfl
/-! ### draws -/
abbrev sLawCells : Stmt := top 44
def spCellsL : Sp := fun vs H Q _ => ∃ (b c : Addr) (n : Nat) (wd : Int), vs = [.ref b, .int (n : Int), .int wd] ∧ Bag H b c ∧ n ≤ 100 ∧ 0 ≤ wd ∧ wd ≤ 1000 ∧
  ∀ (m : Addr) (p : SerM.Po) (H' : Hp), Bag H' b c → Kp b H H' → H m = none → H' m = some (.lst (iv p)) → p.length = n → (∀ i, ((SerM.co p i).natAbs : Int) ≤ wd) → Q (.ref m) H'
theorem scLawCells : FnScope ["_law_bag_here", "_law_many", "_law_wide", "_law_k"] ["_law_bag_here", "_law_many", "_law_wide"] (defScope sLawCells) := ⟨rfl, rfl, rfl, by decide +kernel, rfl, by decide +kernel, by decide +kernel⟩
theorem ok_cellsL {f g : Addr} {fd gd : FuncData} (F : Fun K "_law_cells" "_law_cells" sLawCells f fd) (T : LawT mg) (GP : Df P w K mg base 1 g gd "_law_pull" ["_law_bag_here", "_law_many"] spPull) : FnOk P w K mg base CX0 2 f fd ["_law_bag_here", "_law_many", "_law_wide"] spCellsL := by
  refine F.ok scLawCells (fun vs H Q E h => ?_) (fun cdv A outer s H vs Q E hr h => ?_)
  · obtain ⟨b, c, n, wd, rfl, _⟩ := h
    rfl
  obtain ⟨b, c, n, wd, rfl, B, hn, w0, w1, q⟩ := h
  have hsz : 1000000 < sizeLine := by decide
  refine ⟨_, (pss_one (ps_ret (pe_lc (own := [("_law_k", 3)]) (g := (gName 3)) rfl scLawCells.nd (pi_range1 (by rfl) T.range (pa_cons (pv 1) pa_nil)) (blkOk_by (own := [("_law_k", 3)]) (N := ["_law_bag_here", "_law_many", "_law_wide", "_law_k"]) (sc := defScope sLawCells) (by decide +kernel)) (fun _ _ _ _ _ => (pg_name (i := 3) scLawCells.nd rfl (Or.inl rfl) (Or.inr rfl))) (fun _ _ _ _ _ => pts_nil) (fun _ _ _ _ _ => (pe_op op_sub (pe_call GP.ok (hr.mono (by decide)) (by rfl) GP.m GP.kp GP.b .nil pass0 (pa_cons (pv 0) (pa_cons (pe_op op_add (pe_op op_mul pe_int (pv 2)) pe_int) pa_nil))) (pv 2)))))), ?_⟩
  refine ⟨_, rfl, _, rfl, (by omega), (by omega), fun D hD => ?_⟩
  refine lc_it (walk_range (lo := 0)) (fun i H2 => Bag H2 b c ∧ Kp b H H2 ∧ ∃ p : SerM.Po, H2 D = some (.lst (iv p)) ∧ p.length = i ∧ ∀ i, ((SerM.co p i).natAbs : Int) ≤ wd)
    ⟨B.upd_new hD _, Same.kp (same_upd hD (.lst [])), [], upd_same, rfl, fun i => by rw [SerM.co_nil]; omega⟩ (fun _ _ _ _ => trivial) (fun i x H2 H3 hi ⟨B2, k2, p, h2, pl, pb⟩ ⟨e1, e2⟩ => ?_) (fun H2 ⟨B2, k2, p, h2, pl, pb⟩ => ?_)
  · subst e1 e2
    have nD : D ≠ b := iv_bag B2 h2
    refine ⟨rfl, _, rfl, _, rfl, _, _, rfl, rfl, .inl ⟨by decide, by decide⟩, _, _, rfl, rfl, b, c, _, rfl, B2, by omega, by omega, fun d H4 d0 d1 B4 k4 => ?_⟩
    refine ⟨_, rfl, _, _, rfl, rfl, _, k4 _ _ h2 nD, by rw [List.length_map]; omega, ?_⟩
    have h4 := k4 _ _ h2 nD
    refine ⟨B4.wr (B.ne_new hD) _, (k2.trans k4).wr hD _, p ++ [d - wd], ?_, ?_, ?_⟩
    · rw [upd_same]; simp [iv]
    · rw [List.length_append, pl]; rfl
    · intro j
      rw [co_snoc]
      split
      · exact pb j
      · split <;> omega
  · rw [Int.toNat_natCast] at pl
    exact q D p H2 B2 k2 hD h2 pl pb
abbrev sLawPair : Stmt := top 45
theorem Kp.freeS {b c p : Addr} {H H' : Hp} (k : Kp b H H') (B : Bag H b c) (h : H' p = none) (nb : p ≠ b) : H p = none := by
  cases e : H p with
  | none => rfl
  | some o => rw [k p o e nb] at h; cases h
/-- the drawn pair t: a top and a bottom -/
def PairAt (H : Hp) (t : Addr) (p q : SerM.Po) : Prop := ∃ x y : Addr, H t = some (.tup [.ref x, .ref y]) ∧ H x = some (.lst (iv p)) ∧ H y = some (.lst (iv q))
def spPairL : Sp := fun vs H Q _ => ∃ (b c : Addr) (n : Nat) (wd : Int), vs = [.ref b, .int (n : Int), .int wd] ∧ Bag H b c ∧ 1 ≤ n ∧ n ≤ 50 ∧ 1 ≤ wd ∧ wd ≤ 1000 ∧
  ∀ (t x y : Addr) (p q : SerM.Po) (H' : Hp), Bag H' b c → Kp b H H' → H t = none → H x = none → H y = none → H' t = some (.tup [.ref x, .ref y]) → H' x = some (.lst (iv p)) → H' y = some (.lst (iv (1 :: q))) → p.length ≤ n → q.length + 1 ≤ n → (∀ i, ((SerM.co p i).natAbs : Int) ≤ wd) → (∀ i, ((SerM.co (1 :: q) i).natAbs : Int) ≤ wd) → Q (.ref t) H'
theorem scLawPair : FnScope ["_law_bag_here", "_law_many", "_law_wide"] ["_law_bag_here", "_law_many", "_law_wide"] (defScope sLawPair) := ⟨rfl, rfl, rfl, by decide +kernel, rfl, by decide +kernel, by decide +kernel⟩
theorem ok_pairL {f g1 g2 : Addr} {fd d1 d2 : FuncData} (F : Fun K "_law_pair" "_law_pair" sLawPair f fd) (GP : Df P w K mg base 1 g1 d1 "_law_pull" ["_law_bag_here", "_law_many"] spPull) (GC : Df P w K mg base 2 g2 d2 "_law_cells" ["_law_bag_here", "_law_many", "_law_wide"] spCellsL) : FnOk P w K mg base CX0 3 f fd ["_law_bag_here", "_law_many", "_law_wide"] spPairL := by
  refine F.ok scLawPair (fun vs H Q E h => ?_) (fun cdv A outer s H vs Q E hr h => ?_)
  · obtain ⟨b, c, n, wd, rfl, _⟩ := h
    rfl
  obtain ⟨b, c, n, wd, rfl, B, n1, n5, w1, w9, q⟩ := h
  have hsz : 1000000 < sizeLine := by decide
  refine ⟨_, (pss_one (ps_ret (pe_tup (pa_cons (pe_call GC.ok (hr.mono (by decide)) (by rfl) GC.m GC.kp GC.b .nil pass0 (pa_cons (pv 0) (pa_cons (pe_call GP.ok (hr.mono (by decide)) (by rfl) GP.m GP.kp GP.b .nil pass0 (pa_cons (pv 0) (pa_cons (pe_op op_add (pv 1) pe_int) pa_nil))) (pa_cons (pv 2) pa_nil)))) (pa_cons (pe_op op_cat (pe_lst (pa_cons pe_int pa_nil)) (pe_call GC.ok (hr.mono (by decide)) (by rfl) GC.m GC.kp GC.b .nil pass0 (pa_cons (pv 0) (pa_cons (pe_call GP.ok (hr.mono (by decide)) (by rfl) GP.m GP.kp GP.b .nil pass0 (pa_cons (pv 0) (pa_cons (pv 1) pa_nil))) (pa_cons (pv 2) pa_nil))))) pa_nil))))), ?_⟩
  refine ⟨_, rfl, _, rfl, _, rfl, _, _, rfl, rfl, b, c, _, rfl, B, by omega, by omega, fun d H1 d0 d1 B1 k1 => ?_⟩
  obtain ⟨d, rfl⟩ : ∃ e : Nat, d = (e : Int) := ⟨d.toNat, by omega⟩
  refine ⟨_, rfl, b, c, d, wd, rfl, B1, by omega, by omega, w9, fun x p H2 B2 k2 hx h2 pl pb => ?_⟩
  refine ⟨(by show 1 ≤ sizeLine; decide), fun z hz => ?_⟩
  have B3 := B2.upd_new hz (.lst [V.int 1])
  have h3x : upd H2 z (.lst [V.int 1]) x = some (.lst (iv p)) := by rw [upd_ne (ne_of_none h2 hz)]; exact h2
  have h3z : upd H2 z (.lst [V.int 1]) z = some (.lst (iv [1])) := upd_same
  have k3 := (k1.trans k2).trans (Same.kp (same_upd hz (.lst [V.int 1])))
  generalize upd H2 z (.lst [V.int 1]) = H3 at B3 h3x h3z k3 ⊢
  refine ⟨_, rfl, _, rfl, _, rfl, b, c, _, rfl, B3, by omega, by omega, fun e H4 e0 e1 B4 k4 => ?_⟩
  obtain ⟨e, rfl⟩ : ∃ k : Nat, e = (k : Int) := ⟨e.toNat, by omega⟩
  refine ⟨_, rfl, b, c, e, wd, rfl, B4, by omega, by omega, w9, fun y r H5 B5 k5 hy h5 rl rb => ?_⟩
  have nx := iv_bag B3 h3x
  have nz := iv_bag B3 h3z
  have h5x := k5 _ _ (k4 _ _ h3x nx) nx
  have h5z := k5 _ _ (k4 _ _ h3z nz) nz
  refine ⟨z, y, _, _, rfl, rfl, h5z, h5, (by rw [List.length_map, List.length_map, rl]; show 1 + e ≤ _; omega), fun m hm => ?_⟩
  have em : iv [1] ++ iv r = iv (1 :: r) := rfl
  rw [em]
  have B6 := B5.upd_new hm (.lst (iv (1 :: r)))
  have k6 := ((k3.trans k4).trans k5).trans (Same.kp (same_upd hm (.lst (iv (1 :: r)))))
  have h6x : upd H5 m (.lst (iv (1 :: r))) x = some (.lst (iv p)) := by rw [upd_ne (ne_of_none h5x hm)]; exact h5x
  have h6m : upd H5 m (.lst (iv (1 :: r))) m = some (.lst (iv (1 :: r))) := upd_same
  have nm := B5.fresh hm
  have hm0 := ((k3.trans k4).trans k5).freeS B hm nm
  generalize upd H5 m (.lst (iv (1 :: r))) = H6 at B6 k6 h6x h6m ⊢
  refine ⟨(by show 2 ≤ sizeLine; decide), fun t ht => ?_⟩
  refine q t x m p r _ (B6.upd_new ht _) (k6.trans (Same.kp (same_upd ht (.tup [.ref x, .ref m])))) (k6.freeS B ht (B6.fresh ht)) (k1.freeS B hx nx) hm0 upd_same (by rw [upd_ne (ne_of_none h6x ht)]; exact h6x) (by rw [upd_ne (ne_of_none h6m ht)]; exact h6m) (by omega) (by omega) pb fun i => ?_
  cases i with
  | zero => show ((1 : Int).natAbs : Int) ≤ wd; omega
  | succ i => exact rb i
end
end Un
namespace Un
open PySem L2 TL
section
variable {P : Program} {w : World} {K : PySem.W.Frag} {mg : Str → Option Value} {base : Heap}
abbrev sLawRest : Stmt := top 46
theorem last_at {o : SerM.Po} (t : SerM.Tm o) (n : o ≠ []) : atI (iv o) (-1) = some (.int (o.getLastD 0)) := by
  have l : 1 ≤ o.length := List.length_pos_iff.mpr n
  have h := take_at l (Nat.le_refl o.length)
  rw [List.take_length] at h
  rw [h, SerM.lastD_tm n, ← (SerM.tm_lead t n).at_]
theorem zp_bd {o : SerM.Po} {B : Nat} (hB : 0 < B) (h : ∀ i, (SerM.co o i).natAbs < B) : ∀ (k i : Nat), (SerM.co (SerM.zp k o) i).natAbs < B
  | 0, i => h i
  | k + 1, 0 => hB
  | k + 1, i + 1 => zp_bd hB h k i
theorem lastD_bd {o : SerM.Po} {B : Nat} (t : SerM.Tm o) (n : o ≠ []) (h : ∀ i, (SerM.co o i).natAbs < B) : (o.getLastD 0).natAbs < B := by
  rw [SerM.lastD_tm n, ← (SerM.tm_lead t n).at_]; exact h _
theorem mul_lt2 {a b : Int} {e d : Nat} (ha : a.natAbs < 2 ^ e) (hb : b.natAbs < 2 ^ d) : (a * b).natAbs < 2 ^ (e + d) := by
  rw [Int.natAbs_mul, Nat.pow_add]
  exact Nat.mul_lt_mul'' ha hb
theorem step_at (g o : SerM.Po) (i : Nat) : SerM.co (SerM.add (SerM.smul (o.getLastD 0) g) (SerM.smul (-(g.getLastD 0)) (SerM.zp (g.length - o.length) o))) i = SerM.co g i * o.getLastD 0 - g.getLastD 0 * SerM.co (SerM.zp (g.length - o.length) o) i := by
  rw [SerM.co_add, SerM.co_smul, SerM.co_smul]
  grind
theorem step_bd {g o : SerM.Po} {e d : Nat} (tg : SerM.Tm g) (to : SerM.Tm o) (ng : g ≠ []) (no : o ≠ []) (hg : ∀ i, (SerM.co g i).natAbs < 2 ^ e) (ho : ∀ i, (SerM.co o i).natAbs < 2 ^ d) (i : Nat) : (SerM.co (SerM.step g o) i).natAbs < 2 ^ (e + d + 1) := by
  unfold SerM.step
  rw [SerM.trim_co, step_at]
  have h1 := mul_lt2 (hg i) (lastD_bd to no ho)
  have h2 := mul_lt2 (lastD_bd tg ng hg) (zp_bd (Nat.pow_pos (by decide)) ho (g.length - o.length) i)
  rw [Nat.pow_succ]
  omega
def spRestL (K : PySem.W.Frag) : Sp := fun vs H Q _ => ∃ (a b : Addr) (f o : SerM.Po) (M : Nat), vs = [.ref a, .ref b] ∧ SqL K H a (iv f) ∧ SqL K H b (iv o) ∧ SerM.Tm f ∧ SerM.Tm o ∧ o ≠ [] ∧ f.length ≤ 400 ∧ o.length ≤ 400 ∧ (∀ i, (SerM.co f i).natAbs < 2 ^ M) ∧ (∀ i, (SerM.co o i).natAbs < 2 ^ M) ∧ (M + 1) * (f.length + 4) ≤ 134217728 ∧
  ((∀ i, (SerM.co (SerM.rest f.length f o) i).natAbs < 2 ^ (M + (f.length + 1 - o.length) * (M + 1))) → Out H (SerM.rest f.length f o) Q)
theorem scLawRest : FnScope ["_law_one", "_law_other", "_law_found", "_law_k", "_law_wide", "_law_cell", "_law_late"] ["_law_one", "_law_other"] (defScope sLawRest) := ⟨rfl, rfl, rfl, by decide +kernel, rfl, by decide +kernel, by decide +kernel⟩
theorem ok_restL {f g : Addr} {fd gd : FuncData} (F : Fun K "_law_rest" "_law_rest" sLawRest f fd) (T : LawT mg) (GT : Df P w K mg base 1 g gd "_law_trim" ["_law_cells_here"] (spTrimL K)) : FnOk P w K mg base CX0 2 f fd ["_law_one", "_law_other"] (spRestL K) := by
  refine F.ok scLawRest (fun vs H Q E h => ?_) (fun cdv A outer s H vs Q E hr h => ?_)
  · obtain ⟨a, b, p, o, M, rfl, _⟩ := h
    rfl
  obtain ⟨a, b, p, o, M, rfl, Ra, Rb, tp, to, no, pl, ol, hp, ho, hM, q⟩ := h
  have hsz : 1000000 < sizeLine := by decide
  have ol0 : 1 ≤ o.length := List.length_pos_iff.mpr no
  refine ⟨_, (pss_cons (ps_set (i := 2) scLawRest.nd rfl (by first | exact Or.inl rfl | exact Or.inr rfl) (pe_call GT.ok (hr.mono (by decide)) (by rfl) GT.m GT.kp GT.b .nil pass0 (pa_cons (pv 0) pa_nil)))
 (pss_cons (ps_for PassesOwn.never rfl (pi_range1 (by rfl) T.range (pa_cons (pe_callB call_len_seq (by rfl) T.len PySem.boot_len (pa_cons (pv 0) pa_nil)) pa_nil)) (pg_name (i := 3) scLawRest.nd rfl (by first | exact Or.inl rfl | exact Or.inr rfl))
 (pss_one (ps_if (pt_cmpR op_ge (pe_callB call_len_seq (by rfl) T.len PySem.boot_len (pa_cons (pv 2) pa_nil)) (pe_callB call_len_seq (by rfl) T.len PySem.boot_len (pa_cons (pv 1) pa_nil)) (nomark _))
 (pss_cons (ps_set (i := 4) scLawRest.nd rfl (by first | exact Or.inl rfl | exact Or.inr rfl) (pe_op op_cat (pe_op op_rep (pe_lst (pa_cons pe_int pa_nil)) (pe_op op_sub (pe_callB call_len_seq (by rfl) T.len PySem.boot_len (pa_cons (pv 2) pa_nil)) (pe_callB call_len_seq (by rfl) T.len PySem.boot_len (pa_cons (pv 1) pa_nil)))) (pe_callTy call_list_of (by rfl) T.list (by decide +kernel) (pa_cons (pv 1) pa_nil))))
 (pss_one (ps_set (i := 2) scLawRest.nd rfl (by first | exact Or.inl rfl | exact Or.inr rfl) (pe_call GT.ok (hr.mono (by decide)) (by rfl) GT.m GT.kp GT.b .nil pass0 (pa_cons (pe_lc (own := [("_law_cell", 5), ("_law_late", 6)]) (g := (gTup K 2 (gCons (gName 5) (gCons (gName 6) gNil)))) rfl scLawRest.nd (pi_zip (by rfl) T.zip (pa_cons (pv 2) (pa_cons (pv 4) pa_nil))) (blkOk_by (own := [("_law_cell", 5), ("_law_late", 6)]) (N := ["_law_one", "_law_other", "_law_found", "_law_k", "_law_wide", "_law_cell", "_law_late"]) (sc := defScope sLawRest) (by decide +kernel)) (fun _ _ _ _ _ => (pg_tup (n := 2) rfl (pgs_cons (pg_name (i := 5) scLawRest.nd rfl (Or.inl rfl) (Or.inr rfl)) (pgs_cons (pg_name (i := 6) scLawRest.nd rfl (Or.inl rfl) (Or.inr rfl)) pgs_nil)))) (fun _ _ _ _ _ => pts_nil) (fun _ _ _ _ _ => (pe_op op_sub (pe_op op_mulX (pv 5) (pe_ix (ixL (K := K) rfl) (pv 1) (pe_un un_neg pe_int) (fun _ _ => rfl))) (pe_op op_mulX (pe_ix (ixL (K := K) rfl) (pv 2) (pe_un un_neg pe_int) (fun _ _ => rfl)) (pv 6))))) pa_nil)))))
 pss_nil)))
 (pss_one (ps_ret (pv 2))))), ?_⟩
  refine ⟨_, rfl, a, p, rfl, Ra, by omega, fun x H1 s1 hx h1 => ?_⟩
  rw [SerM.trim_id tp] at h1
  refine ⟨_, rfl, a, _, rfl, .inl (s1.seq Ra), _, rfl, (by rw [List.length_map]; omega), (by rw [List.length_map]; omega), ?_⟩
  rw [List.length_map]
  refine for_it (walk_range (lo := 0)) (fun i σ H2 => ∃ (m : Addr) (g : SerM.Po) (e : Nat) (v3 v4 v5 v6 : Option V), σ = [some (.ref a), some (.ref b), some (.ref m), v3, v4, v5, v6] ∧ Same H H2 ∧ H m = none ∧ H2 m = some (.lst (iv g)) ∧ SerM.Tm g ∧ g.length ≤ p.length ∧ SerM.rest (p.length - i) g o = SerM.rest p.length p o ∧ (∀ i, (SerM.co g i).natAbs < 2 ^ e) ∧ e + (g.length + 1 - o.length) * (M + 1) ≤ M + (p.length + 1 - o.length) * (M + 1))
    ⟨x, p, M, none, none, none, none, rfl, s1, hx, h1, tp, Nat.le_refl _, by rw [Nat.sub_zero], hp, Nat.le_refl _⟩ (fun _ _ _ _ _ => trivial) ?_ ?_
  · rintro i v σ H2 H3 hi ⟨m, g, e, v3, v4, v5, v6, rfl, s2, hm, h2, tg, gl, er, hg, hE⟩ ⟨rfl, rfl⟩
    rw [Int.toNat_natCast] at hi
    obtain ⟨n, hn⟩ : ∃ n, p.length - i = n + 1 := ⟨p.length - i - 1, by omega⟩
    have hn' : p.length - (i + 1) = n := by omega
    rw [hn] at er
    refine ⟨_, rfl, m, _, rfl, .inl (SqL.of h2), _, rfl, b, _, rfl, .inl (s2.seq Rb), _, _, rfl, rfl, _, rfl, ?_⟩
    rw [List.length_map, List.length_map]
    refine ite2 (fun c => ?pos) (fun c => ?neg)
    case neg =>
      have lt : ¬ o.length ≤ g.length := fun z => c (decide_eq_true (by omega))
      refine ⟨m, g, e, _, v4, v5, v6, rfl, s2, hm, h2, tg, gl, ?_, hg, hE⟩
      rw [hn', ← er]
      show _ = if o.length ≤ g.length then _ else _
      rw [if_neg lt]
    have le : o.length ≤ g.length := by have := of_decide_eq_true c; omega
    have ng : g ≠ [] := fun z => by rw [z] at le; have : o.length ≤ 0 := le; omega
    have er' : SerM.rest n (SerM.step g o) o = SerM.rest p.length p o := by
      rw [← er]
      show _ = if o.length ≤ g.length then _ else _
      rw [if_pos le]
    refine ⟨(by show 1 ≤ sizeLine; decide), fun z1 hz1 => ?_⟩
    have s3 := s2.trans (same_upd hz1 (.lst [V.int 0]))
    have h3 : upd H3 z1 (.lst [V.int 0]) m = some (.lst (iv g)) := by rw [upd_ne (ne_of_none h2 hz1)]; exact h2
    have h3z : upd H3 z1 (.lst [V.int 0]) z1 = some (.lst [V.int 0]) := upd_same
    generalize upd H3 z1 (.lst [V.int 0]) = H4 at s3 h3 h3z ⊢
    refine ⟨_, rfl, m, _, rfl, .inl (SqL.of h3), _, rfl, b, _, rfl, .inl (s3.seq Rb), _, _, rfl, rfl, z1, _, _, rfl, rfl, h3z, (by rw [List.length_map, List.length_map]; omega), (by rw [List.length_map, List.length_map]; omega), (by rw [List.length_map, List.length_map]; show 1 * _ ≤ _; omega), fun z2 hz2 => ?_⟩
    have en : (((iv g).length : Int) - ((iv o).length : Int)).toNat = g.length - o.length := by rw [List.length_map, List.length_map]; omega
    rw [en, rep_one]
    have s4 := s3.trans (same_upd hz2 (.lst (List.replicate (g.length - o.length) (V.int 0))))
    have h4 : upd H4 z2 (.lst (List.replicate (g.length - o.length) (V.int 0))) m = some (.lst (iv g)) := by rw [upd_ne (ne_of_none h3 hz2)]; exact h3
    have h4z : upd H4 z2 (.lst (List.replicate (g.length - o.length) (V.int 0))) z2 = some (.lst (List.replicate (g.length - o.length) (V.int 0))) := upd_same
    generalize upd H4 z2 (.lst (List.replicate (g.length - o.length) (V.int 0))) = H5 at s4 h4 h4z ⊢
    refine ⟨_, rfl, b, _, rfl, .inl (s4.seq Rb), fun z3 hz3 => ?_⟩
    have s5 := s4.trans (same_upd hz3 (.lst (iv o)))
    have h5 : upd H5 z3 (.lst (iv o)) m = some (.lst (iv g)) := by rw [upd_ne (ne_of_none h4 hz3)]; exact h4
    have h5z : upd H5 z3 (.lst (iv o)) z2 = some (.lst (List.replicate (g.length - o.length) (V.int 0))) := by rw [upd_ne (ne_of_none h4z hz3)]; exact h4z
    have h5o : upd H5 z3 (.lst (iv o)) z3 = some (.lst (iv o)) := upd_same
    generalize upd H5 z3 (.lst (iv o)) = H6 at s5 h5 h5z h5o ⊢
    refine ⟨z2, z3, _, _, rfl, rfl, h5z, h5o, (by rw [List.length_replicate, List.length_map]; omega), fun z4 hz4 => ?_⟩
    rw [← iv_zp]
    have s6 := s5.trans (same_upd hz4 (.lst (iv (SerM.zp (g.length - o.length) o))))
    have h6 : upd H6 z4 (.lst (iv (SerM.zp (g.length - o.length) o))) m = some (.lst (iv g)) := by rw [upd_ne (ne_of_none h5 hz4)]; exact h5
    have h6z : upd H6 z4 (.lst (iv (SerM.zp (g.length - o.length) o))) z4 = some (.lst (iv (SerM.zp (g.length - o.length) o))) := upd_same
    generalize upd H6 z4 (.lst (iv (SerM.zp (g.length - o.length) o))) = H7 at s6 h6 h6z ⊢
    have zl : (SerM.zp (g.length - o.length) o).length = g.length := by rw [zp_len]; omega
    refine ⟨_, rfl, _, rfl, m, z4, _, _, rfl, SqL.of h6, SqL.of h6z, fun D hD => ?_⟩
    let G : Nat → Int := fun i => SerM.co g i * o.getLastD 0 - g.getLastD 0 * SerM.co (SerM.zp (g.length - o.length) o) i
    refine lc_it (walk_zip (n := g.length) (by rw [List.length_map, List.length_map, zl, Nat.min_self])) (fun i H8 => Same H7 H8 ∧ H8 D = some (.lst (iv (tab G i)))) ⟨same_upd hD _, upd_same⟩ (fun i H8 _ h => ⟨h.1.seq (SqL.of h6), h.1.seq (SqL.of h6z)⟩) ?_ ?_
    · rintro j v H8 H9 hj ⟨s8, h8⟩ ⟨t, y, z, rfl, ht, rfl, hy, hz⟩
      obtain ⟨hy1, rfl⟩ := iv_get hy
      obtain ⟨hz1', rfl⟩ := iv_get hz
      have tD : D ≠ t := ne_of_none h8 ht
      have s9 := s8.trans (same_upd ht (.tup [.int (SerM.co g j), .int (SerM.co (SerM.zp (g.length - o.length) o) j)]))
      have h9 : upd H8 t (.tup [.int (SerM.co g j), .int (SerM.co (SerM.zp (g.length - o.length) o) j)]) D = some (.lst (iv (tab G j))) := by rw [upd_ne tD]; exact h8
      refine ⟨t, _, rfl, SqT.of upd_same, rfl, _, _, rfl, _, _, rfl, rfl, rfl, ?_⟩
      generalize upd H8 t (.tup [.int (SerM.co g j), .int (SerM.co (SerM.zp (g.length - o.length) o) j)]) = H10 at s9 h9 ⊢
      have eb := bits_le (hg j)
      have lb := bits_le (lastD_bd to no ho)
      have lg := bits_le (lastD_bd tg ng hg)
      have zb := bits_le (zp_bd (Nat.pow_pos (by decide)) ho (g.length - o.length) j)
      have hE2 : e ≤ M + (p.length + 1 - o.length) * (M + 1) := Nat.le_trans (Nat.le_add_right _ _) hE
      have hE3 : (p.length + 1 - o.length) * (M + 1) ≤ (M + 1) * p.length := by rw [Nat.mul_comm]; exact Nat.mul_le_mul_left _ (by omega)
      have hE4 : (M + 1) * (p.length + 4) = (M + 1) * p.length + (M + 1) * 4 := Nat.mul_add _ _ _
      refine ⟨_, rfl, _, rfl, _, rfl, b, _, _, _, rfl, rfl, (s6.trans s9).seq Rb, last_at to no, _, _, rfl, rfl, ?_, ?_⟩
      · show (_ : Int) + _ ≤ 134217728
        omega
      refine ⟨_, rfl, _, rfl, m, _, _, _, rfl, rfl, s9.seq (SqL.of h6), last_at tg ng, _, rfl, _, _, rfl, rfl, ?_, _, _, rfl, rfl, ?_⟩
      · show (_ : Int) + _ ≤ 134217728
        omega
      refine ⟨_, h9, by rw [List.length_map, tab_len]; omega, fun a' o' ha' => ?_, ?_⟩
      · rw [upd_ne (ne_of_none ha' hD)]; exact s9 _ _ ha'
      · rw [upd_same, show tab G (j + 1) = tab G j ++ [G j] by unfold tab; rw [List.range_succ, List.map_append]; rfl]
        simp [iv, G]
    · rintro H8 ⟨s8, h8⟩
      refine ⟨D, tab G g.length, rfl, SqL.of h8, by rw [tab_len]; omega, fun m2 H9 s9 hm2 h9 => ?_⟩
      have est : SerM.trim (tab G g.length) = SerM.step g o := by
        unfold SerM.step
        refine tab_trim (fun i hi => (step_at g o i).symm) fun i hi => ?_
        rw [step_at, SerM.co_len hi, SerM.co_len (by rw [zl]; exact hi)]; omega
      rw [est] at h9
      have sl := SerM.step_len tg to no le
      have s79 := (s6.trans s8).trans s9
      refine ⟨m2, SerM.step g o, e + M + 1, _, _, v5, v6, rfl, s79, (s6.trans s8).free hm2, h9, SerM.trim_tm _, by omega, by rw [hn']; exact er', step_bd tg to ng no hg ho, ?_⟩
      have : ((SerM.step g o).length + 1 - o.length) * (M + 1) + (M + 1) ≤ (g.length + 1 - o.length) * (M + 1) := by
        rw [← Nat.succ_mul]
        exact Nat.mul_le_mul_right _ (by omega)
      omega
  · rintro σ H2 ⟨m, g, e, v3, v4, v5, v6, rfl, s2, hm, h2, tg, gl, er, hg, hE⟩
    have e0 : p.length - ((p.length : Int) - 0).toNat = 0 := by omega
    have eg : g = SerM.rest p.length p o := by
      rw [← er]
      have : p.length - ((p.length : Int)).toNat = 0 := by omega
      first
        | rw [this]; rfl
        | rw [e0]; rfl
    rw [← eg] at q
    refine ⟨_, rfl, q (fun i => Nat.lt_of_lt_of_le (hg i) (Nat.pow_le_pow_right (by decide) (Nat.le_trans (Nat.le_add_right _ _) hE))) m H2 s2 hm h2⟩
end
end Un
namespace Un
open PySem L2 TL
section
variable {P : Program} {w : World} {K : PySem.W.Frag} {mg : Str → Option Value} {base : Heap}
abbrev sLawCoprime : Stmt := top 47
theorem pow2_ge (n : Nat) : n + 1 ≤ 2 ^ n := by
  induction n with
  | zero => decide
  | succ n ih => rw [Nat.pow_succ]; omega
theorem pow2_ge2 (q : Nat) : 1 + q ≤ 2 ^ q := by rw [Nat.add_comm]; exact pow2_ge q
def spCopL (K : PySem.W.Frag) : Sp := fun vs H Q _ => ∃ (a b : Addr) (p q : SerM.Po) (M : Nat), vs = [.ref a, .ref b] ∧ SqL K H a (iv p) ∧ SqL K H b (iv q) ∧ SerM.Tm p ∧ SerM.Tm q ∧ p.length ≤ 200 ∧ q.length ≤ 200 ∧ (∀ i, (SerM.co p i).natAbs < 2 ^ M) ∧ (∀ i, (SerM.co q i).natAbs < 2 ^ M) ∧ (M + 1) * 2 ^ (p.length + q.length) ≤ 67108864 ∧
  ∀ H', Same H H' → Q (.bl (SerM.copr (p.length + q.length + 2) p q)) H'
theorem scLawCoprime : FnScope ["_law_one", "_law_other", "_law_first", "_law_second", "_law_k"] ["_law_one", "_law_other"] (defScope sLawCoprime) := ⟨rfl, rfl, rfl, by decide +kernel, rfl, by decide +kernel, by decide +kernel⟩
theorem ok_copL {f g1 g2 : Addr} {fd d1 d2 : FuncData} (F : Fun K "_law_coprime" "_law_coprime" sLawCoprime f fd) (T : LawT mg) (GT : Df P w K mg base 1 g1 d1 "_law_trim" ["_law_cells_here"] (spTrimL K)) (GR : Df P w K mg base 2 g2 d2 "_law_rest" ["_law_one", "_law_other"] (spRestL K)) : FnOk P w K mg base CX0 3 f fd ["_law_one", "_law_other"] (spCopL K) := by
  refine F.ok scLawCoprime (fun vs H Q E h => ?_) (fun cdv A outer s H vs Q E hr h => ?_)
  · obtain ⟨a, b, p, o, M, rfl, _⟩ := h
    rfl
  obtain ⟨a, b, p, o, M, rfl, Ra, Rb, tp, to, pl, ol, hp, ho, hM, q⟩ := h
  have hsz : 1000000 < sizeLine := by decide
  refine ⟨_, (pss_cons (ps_par (i := 2) (j := 3) rfl scLawCoprime.nd rfl rfl (by decide) rfl rfl (pa_cons (pe_call GT.ok (hr.mono (by decide)) (by rfl) GT.m GT.kp GT.b .nil pass0 (pa_cons (pv 0) pa_nil)) (pa_cons (pe_call GT.ok (hr.mono (by decide)) (by rfl) GT.m GT.kp GT.b .nil pass0 (pa_cons (pv 1) pa_nil)) pa_nil)) (by rfl))
 (pss_cons (ps_for PassesOwn.never rfl (pi_range1 (by rfl) T.range (pa_cons (pe_op op_add (pe_op op_add (pe_callB call_len_seq (by rfl) T.len PySem.boot_len (pa_cons (pv 0) pa_nil)) (pe_callB call_len_seq (by rfl) T.len PySem.boot_len (pa_cons (pv 1) pa_nil))) pe_int) pa_nil)) (pg_name (i := 4) scLawCoprime.nd rfl (by first | exact Or.inl rfl | exact Or.inr rfl))
 (pss_cons (ps_if (pt_cmpR (op_eqI hr.units) (pv 3) (pe_lst pa_nil) (nomark _))
 (pss_one (ps_ret (pe_cmpR op_eq (pe_callB call_len_seq (by rfl) T.len PySem.boot_len (pa_cons (pv 2) pa_nil)) pe_int (nomark _))))
 pss_nil)
 (pss_one (ps_par (i := 2) (j := 3) rfl scLawCoprime.nd rfl rfl (by decide) rfl rfl (pa_cons (pv 3) (pa_cons (pe_call GR.ok (hr.mono (by decide)) (by rfl) GR.m GR.kp GR.b .nil pass0 (pa_cons (pv 2) (pa_cons (pv 3) pa_nil))) pa_nil)) (by rfl)))))
 (pss_one (ps_ret pe_bl)))), ?_⟩
  refine ⟨_, rfl, a, p, rfl, Ra, by omega, fun x H1 s1 hx h1 => ?_⟩
  rw [SerM.trim_id tp] at h1
  refine ⟨_, rfl, b, o, rfl, s1.seq Rb, by omega, fun y H2 s2' hy h2 => ?_⟩
  rw [SerM.trim_id to] at h2
  have s2 := s1.trans s2'
  have h2x := s2' _ _ h1
  refine ⟨_, _, rfl, ?_⟩
  have s3 := s2
  have h3x := h2x
  have h3y := h2
  refine ⟨_, rfl, a, _, rfl, .inl (s3.seq Ra), _, rfl, b, _, rfl, .inl (s3.seq Rb), _, _, rfl, rfl, _, _, rfl, rfl, _, rfl, (by rw [List.length_map, List.length_map]; omega), (by rw [List.length_map, List.length_map]; omega), ?_⟩
  have en : (((iv p).length : Int) + ((iv o).length : Int) + 2).toNat = p.length + o.length + 2 := by rw [List.length_map, List.length_map]; omega
  refine for_it (walk_range (lo := 0)) (fun i σ H4 => ∃ (x y : Addr) (f s : SerM.Po) (N : Nat) (v4 : Option V), σ = [some (.ref a), some (.ref b), some (.ref x), some (.ref y), v4] ∧ Same H H4 ∧ H4 x = some (.lst (iv f)) ∧ H4 y = some (.lst (iv s)) ∧ SerM.Tm f ∧ SerM.Tm s ∧ f.length ≤ 200 ∧ s.length ≤ 200 ∧ SerM.copr (p.length + o.length + 2 - i) f s = SerM.copr (p.length + o.length + 2) p o ∧ (∀ i, (SerM.co f i).natAbs < 2 ^ N) ∧ (∀ i, (SerM.co s i).natAbs < 2 ^ N) ∧ (N + 1) * 2 ^ (f.length + s.length) ≤ 67108864)
    ⟨x, y, p, o, M, none, rfl, s3, h3x, h3y, tp, to, pl, ol, by rw [Nat.sub_zero], hp, ho, hM⟩ (fun _ _ _ _ _ => trivial) ?_ ?_
  · rintro i v σ H4 H5 hi ⟨x, y, f, s, N, v4, rfl, s4, h4x, h4y, tf, ts, fl, sl, ec, hf, hs, hN⟩ ⟨rfl, rfl⟩
    rw [en] at hi
    obtain ⟨n, hn⟩ : ∃ n, p.length + o.length + 2 - i = n + 1 := ⟨p.length + o.length + 2 - i - 1, by omega⟩
    have hn' : p.length + o.length + 2 - (i + 1) = n := by omega
    rw [hn] at ec
    refine ⟨_, rfl, (by show 0 ≤ sizeLine; decide), fun z hz => ?_⟩
    have s5 := s4.trans (same_upd hz (.lst []))
    have h5x : upd H5 z (.lst []) x = some (.lst (iv f)) := by rw [upd_ne (ne_of_none h4x hz)]; exact h4x
    have h5y : upd H5 z (.lst []) y = some (.lst (iv s)) := by rw [upd_ne (ne_of_none h4y hz)]; exact h4y
    have h5z : upd H5 z (.lst []) z = some (.lst (iv [])) := upd_same
    generalize upd H5 z (.lst []) = H6 at s5 h5x h5y h5z ⊢
    refine ⟨y, z, s, [], rfl, rfl, SqL.of h5y, SqL.of h5z, _, rfl, ?_⟩
    refine ite2 (fun c => ?_) (fun c => ?_)
    · have e : s = [] := of_decide_eq_true c
      refine ⟨_, rfl, x, _, rfl, .inl (SqL.of h5x), rfl, ?_⟩
      have := q H6 s5
      rw [← ec] at this
      unfold SerM.copr at this
      rw [if_pos e] at this
      rw [List.length_map]
      have ed : decide (V.int (f.length : Int) = V.int 1) = (f.length == 1) := by
        by_cases h : f.length = 1
        · rw [h]; decide
        · rw [decide_eq_false (fun z => h (by have := V.int.inj z; omega))]
          exact (beq_eq_false_iff_ne.mpr h).symm
      rw [ed]
      exact this
    · have ne : s ≠ [] := fun e => c (decide_eq_true e)
      have sl0 : 1 ≤ s.length := List.length_pos_iff.mpr ne
      have pw : (N + 1) * (f.length + 4) ≤ 134217728 := by
        have h1 : f.length + 4 ≤ 2 * 2 ^ (f.length + s.length) := by
          have h2 := pow2_ge f.length
          have h3 : 2 ^ (f.length + 1) ≤ 2 ^ (f.length + s.length) := Nat.pow_le_pow_right (by decide) (by omega)
          rw [Nat.pow_succ] at h3
          omega
        have h4 := Nat.mul_le_mul_left (N + 1) h1
        have h5 : (N + 1) * (2 * 2 ^ (f.length + s.length)) = 2 * ((N + 1) * 2 ^ (f.length + s.length)) := by rw [← Nat.mul_assoc, Nat.mul_comm (N + 1) 2, Nat.mul_assoc]
        omega
      refine ⟨_, rfl, _, rfl, _, rfl, x, y, f, s, N, rfl, SqL.of h5x, SqL.of h5y, tf, ts, ne, by omega, by omega, hf, hs, pw, fun hb m H7 s7 hm h7 => ?_⟩
      obtain ⟨r1, r2, _⟩ := SerM.rest_spec ts ne f.length f tf (by omega)
      refine ⟨_, _, rfl, ?_⟩
      have s8 := s5.trans s7
      have h8y := s7 _ _ h5y
      have h8m := h7
      refine ⟨y, m, s, SerM.rest f.length f s, N + (f.length + 1 - s.length) * (N + 1), _, rfl, s8, h8y, h8m, ts, r1, sl, by omega, ?_, fun i => Nat.lt_of_lt_of_le (hs i) (Nat.pow_le_pow_right (by decide) (Nat.le_add_right _ _)), hb, ?_⟩
      · rw [hn', ← ec]
        show _ = SerM.copr (n + 1) f s
        rw [show SerM.copr (n + 1) f s = if s = [] then f.length == 1 else SerM.copr n s (SerM.rest f.length f s) from rfl, if_neg ne]
      · obtain ⟨qq, hq⟩ : ∃ qq, f.length + 1 - s.length = qq := ⟨_, rfl⟩
        rw [hq]
        have h1 : N + qq * (N + 1) + 1 = (N + 1) * (1 + qq) := by grind
        rw [h1]
        have h2 := pow2_ge2 qq
        have h3 : qq + (s.length + (SerM.rest f.length f s).length) ≤ f.length + s.length ∨ qq = 0 := by omega
        rcases h3 with h3 | h3
        · have h4 : 2 ^ qq * 2 ^ (s.length + (SerM.rest f.length f s).length) ≤ 2 ^ (f.length + s.length) := by
            rw [← Nat.pow_add]; exact Nat.pow_le_pow_right (by decide) h3
          have h5 := Nat.mul_le_mul_right (2 ^ (s.length + (SerM.rest f.length f s).length)) h2
          have h6 := Nat.mul_le_mul_left (N + 1) (Nat.le_trans h5 h4)
          rw [← Nat.mul_assoc] at h6
          omega
        · subst h3
          -- nothing is taken away: the rest is the first itself
          have hlt : f.length < s.length := by omega
          have er : ∀ n, SerM.rest n f s = f := fun n => by
            induction n with
            | zero => rfl
            | succ n ih =>
              show (if s.length ≤ f.length then _ else _) = f
              rw [if_neg (by omega)]; exact ih
          rw [er, Nat.add_zero, Nat.mul_one, Nat.add_comm s.length]
          exact hN
  · rintro σ H4 ⟨x, y, f, s, N, v4, rfl, s4, h4x, h4y, tf, ts, fl, sl, ec, hf, hs, hN⟩
    rw [en, Nat.sub_self] at ec
    have := q H4 s4
    rw [← ec] at this
    exact this
end
end Un
namespace Un
open PySem L2 TL
section
variable {P : Program} {w : World} {K : PySem.W.Frag} {mg : Str → Option Value} {base : Heap}
abbrev sLawSo : Stmt := top 48
structure Mt (P : Program) (w : World) (K : PySem.W.Frag) (mg : Str → Option Value) (base : Heap) (C : Addr) (k : Nat) (f : Addr) (fd : FuncData) (m : Str) (ps : List Str) (sp : Sp) : Prop where
  mt : Meth K C m f
  ok : FnOk P w K mg base CX0 k f fd ps sp
  b : Binds K fd ps []
theorem call_isiK {X : Cx} {K : PySem.W.Frag} (h : X.K = K) : CallR X (.builtin "isinstance") (rIsi K) := by
  subst h
  exact call_isi
/-- the sizes that the law's test of a series asks -/
structure SoIn (p q u v : SerM.Po) (c M : Nat) : Prop where
  red : SerM.Red p q u v
  pl : p.length ≤ 200
  ql : q.length ≤ 200
  ul : u.length ≤ 100
  vl : v.length ≤ 100
  pc : ∀ i, (SerM.co p i).natAbs < 2 ^ c
  qc : ∀ i, (SerM.co q i).natAbs < 2 ^ c
  uc : ∀ i, (SerM.co u i).natAbs < 2 ^ M
  vc : ∀ i, (SerM.co v i).natAbs < 2 ^ M
  c9 : c ≤ 9000
  M9 : M ≤ 9000
  sm : (M + 1) * 2 ^ (u.length + v.length) ≤ 67108864
def spSoL (K : PySem.W.Frag) (C : Addr) : Sp := fun vs H Q _ => ∃ (a t x y : Addr) (u v p q : SerM.Po) (c M : Nat), vs = [.ref a, .ref t] ∧ SerAt H C a u v ∧ SqT K H t [.ref x, .ref y] ∧ SqL K H x (iv p) ∧ SqL K H y (iv q) ∧ SoIn p q u v c M ∧ ∀ H', Same H H' → Q (.bl true) H'
theorem scLawSeriesSo : FnScope ["_law_found", "_law_pair_here", "_law_top_z", "_law_bottom_z", "_law_cell"] ["_law_found", "_law_pair_here"] (defScope sLawSo) := ⟨rfl, rfl, rfl, by decide +kernel, rfl, by decide +kernel, by decide +kernel⟩
theorem ok_soL {f C f1 f2 g1 g2 g3 : Addr} {fd e1 e2 d1 d2 d3 : FuncData} (F : Fun K "_law_series_so" "_law_series_so" sLawSo f fd) (T : LawT mg) (C' : SerC K C) (MT : Mt P w K mg base C 1 f1 e1 "top" ["self"] (spTopM C)) (MB : Mt P w K mg base C 1 f2 e2 "bottom" ["self"] (spBotM C)) (GT : Df P w K mg base 1 g1 d1 "_law_trim" ["_law_cells_here"] (spTrimL K)) (GM : Df P w K mg base 2 g2 d2 "_law_times" ["_law_one", "_law_other"] (spTimesL K)) (GQ : Df P w K mg base 3 g3 d3 "_law_coprime" ["_law_one", "_law_other"] (spCopL K)) :
    FnOk P w K mg base CX0 4 f fd ["_law_found", "_law_pair_here"] (spSoL K C) := by
  refine F.ok scLawSeriesSo (fun vs H Q E h => ?_) (fun cdv A outer s H vs Q E hr h => ?_)
  · obtain ⟨a, t, x, y, u, v, p, q, c, M, rfl, _⟩ := h
    rfl
  obtain ⟨a, t, x, y, u, v, p, q, c, M, rfl, S, Rt, Rx, Ry, I, qq⟩ := h
  have hsz : 1000000 < sizeLine := by decide
  refine ⟨_, (pss_cons (ps_par (i := 2) (j := 3) rfl scLawSeriesSo.nd rfl rfl (by decide) rfl rfl (pa_cons (pe_meth0 (pv 0) C'.cl MT.mt MT.ok (hr.mono (by decide)) MT.b .nil pass0) (pa_cons (pe_meth0 (pv 0) C'.cl MB.mt MB.ok (hr.mono (by decide)) MB.b .nil pass0) pa_nil)) (by rfl))
 (pss_cons (ps_if (PW.pt (pw_or (pt_not (pt_val (pe_callB call_isi (by rfl) T.isi (by decide +kernel) (pa_cons (pv 2) (pa_cons (pe_bltn (v := .ty "list") (by rfl) T.list (by decide +kernel) rfl) pa_nil))))) (pw_or1 (pt_not (pt_val (pe_callB call_isi (by rfl) T.isi (by decide +kernel) (pa_cons (pv 3) (pa_cons (pe_bltn (v := .ty "list") (by rfl) T.list (by decide +kernel) rfl) pa_nil))))))))
 (pss_one (ps_ret pe_bl))
 pss_nil)
 (pss_cons (ps_if (pt_not (pt_val (pe_callB (cr_all rfl) (by rfl) T.all (by decide +kernel) (pa_cons (pe_lc (own := [("_law_cell", 4)]) (g := (gName 4)) rfl scLawSeriesSo.nd (pi_list (pe_op op_cat (pv 2) (pv 3))) (blkOk_by (own := [("_law_cell", 4)]) (N := ["_law_found", "_law_pair_here", "_law_top_z", "_law_bottom_z", "_law_cell"]) (sc := defScope sLawSo) (by decide +kernel)) (fun _ _ _ _ _ => (pg_name (i := 4) scLawSeriesSo.nd rfl (Or.inl rfl) (Or.inr rfl))) (fun _ _ _ _ _ => pts_nil) (fun _ _ _ _ _ => (pe_and (pe_callB (call_isiK (K := K) rfl) (by rfl) T.isi (by decide +kernel) (pa_cons (pv 4) (pa_cons (pe_bltn (v := .ty "int") (by rfl) T.int (by decide +kernel) rfl) pa_nil))) (pe_one (pe_not (pe_callB (call_isiK (K := K) rfl) (by rfl) T.isi (by decide +kernel) (pa_cons (pv 4) (pa_cons (pe_bltn (v := .ty "bool") (by rfl) T.bool (by decide +kernel) rfl) pa_nil)))))))) pa_nil))))
 (pss_one (ps_ret pe_bl))
 pss_nil)
 (pss_cons (ps_if (PW.pt (pw_or (pt_cmpR (op_neI hr.units) (pe_slice sl_list (pv 3) po_none (po_some pe_int)) (pe_lst (pa_cons pe_int pa_nil)) (nomark _)) (pw_or (pt_cmpR (op_neI hr.units) (pv 3) (pe_call GT.ok (hr.mono (by decide)) (by rfl) GT.m GT.kp GT.b .nil pass0 (pa_cons (pv 3) pa_nil)) (nomark _)) (pw_or (pt_cmpR (op_neI hr.units) (pv 2) (pe_call GT.ok (hr.mono (by decide)) (by rfl) GT.m GT.kp GT.b .nil pass0 (pa_cons (pv 2) pa_nil)) (nomark _)) (pw_or1 (pt_not (pt_val (pe_call GQ.ok (hr.mono (by decide)) (by rfl) GQ.m GQ.kp GQ.b .nil pass0 (pa_cons (pv 2) (pa_cons (pv 3) pa_nil))))))))))
 (pss_one (ps_ret pe_bl))
 pss_nil)
 (pss_one (ps_ret (pe_cmpR (op_eqI hr.units) (pe_call GM.ok (hr.mono (by decide)) (by rfl) GM.m GM.kp GM.b .nil pass0 (pa_cons (pv 2) (pa_cons (pe_ix ix_tup (pv 1) pe_int (fun _ _ => rfl)) pa_nil))) (pe_call GM.ok (hr.mono (by decide)) (by rfl) GM.m GM.kp GM.b .nil pass0 (pa_cons (pe_ix ix_tup (pv 1) pe_int (fun _ _ => rfl)) (pa_cons (pv 3) pa_nil))) (nomark _)))))))), ?_⟩
  have ul := I.ul
  have vl := I.vl
  have S' := S
  obtain ⟨dx, x0, y0, z0, ha, _, _, _⟩ := S'
  refine ⟨_, rfl, a, dx, _, rfl, ha, rfl, a, u, v, rfl, S, fun l1 hl1 => ?_⟩
  have s1 := same_upd hl1 (.lst (iv u))
  have h1 : upd H l1 (.lst (iv u)) l1 = some (.lst (iv u)) := upd_same
  generalize upd H l1 (.lst (iv u)) = H1 at s1 h1 ⊢
  refine ⟨_, rfl, a, dx, _, rfl, s1 _ _ ha, rfl, a, u, v, rfl, S.same s1, fun l2 hl2 => ?_⟩
  have s2 := s1.trans (same_upd hl2 (.lst (iv v)))
  have h2u : upd H1 l2 (.lst (iv v)) l1 = some (.lst (iv u)) := by rw [upd_ne (ne_of_none h1 hl2)]; exact h1
  have h2v : upd H1 l2 (.lst (iv v)) l2 = some (.lst (iv v)) := upd_same
  generalize upd H1 l2 (.lst (iv v)) = H2 at s2 h2u h2v ⊢
  refine ⟨_, _, rfl, ?_⟩
  refine ⟨_, rfl, _, _, _, _, true, rfl, .ty _, .base (.lst h2u), kit_ty (by decide +kernel), _, rfl, iteF ?_⟩
  refine ⟨_, rfl, _, _, _, _, true, rfl, .ty _, .base (.lst h2v), kit_ty (by decide +kernel), _, rfl, iteF ?_⟩
  refine ⟨_, rfl, _, rfl, l1, l2, _, _, rfl, rfl, h2u, h2v, (by rw [List.length_map, List.length_map]; omega), fun l3 hl3 => ?_⟩
  have s3 := s2.trans (same_upd hl3 (.lst (iv u ++ iv v)))
  have h3u : upd H2 l3 (.lst (iv u ++ iv v)) l1 = some (.lst (iv u)) := by rw [upd_ne (ne_of_none h2u hl3)]; exact h2u
  have h3v : upd H2 l3 (.lst (iv u ++ iv v)) l2 = some (.lst (iv v)) := by rw [upd_ne (ne_of_none h2v hl3)]; exact h2v
  have euv : iv u ++ iv v = iv (u ++ v) := List.map_append.symm
  have h3l : upd H2 l3 (.lst (iv u ++ iv v)) l3 = some (.lst (iv (u ++ v))) := by rw [upd_same, euv]
  generalize upd H2 l3 (.lst (iv u ++ iv v)) = H3 at s3 h3u h3v h3l ⊢
  refine ⟨l3, rfl, ⟨_, SqL.of h3l⟩, fun D hD => ?_⟩
  refine lc_it (walk_list (K := K) (xs := iv (u ++ v))) (fun i H4 => Same H3 H4 ∧ H4 D = some (.lst (List.replicate i (V.bl true)))) ⟨same_upd hD _, upd_same⟩ (fun i H4 _ h => h.1.seq (SqL.of h3l)) ?_ ?_
  · rintro i z H4 H5 hi ⟨s4, h4⟩ ⟨rfl, hz⟩
    obtain ⟨_, rfl⟩ := iv_get hz
    refine ⟨rfl, _, rfl, _, _, _, _, true, rfl, .ty _, .base (.int _), kit_ty (by decide +kernel), _, rfl, iteT ?_⟩
    refine ⟨_, rfl, _, _, _, _, false, rfl, .ty _, .base (.int _), kit_ty (by decide +kernel), _, rfl, ?_⟩
    refine ⟨_, h4, ?_, fun o ob hb => ?_, ?_⟩
    · rw [List.length_map, List.length_append] at hi
      rw [List.length_replicate]; omega
    · rw [upd_ne (ne_of_none hb hD)]; exact s4 _ _ hb
    · rw [upd_same, List.replicate_succ']; rfl
  rintro H4 ⟨s4, h4⟩
  rw [List.length_map] at h4
  refine ⟨D, List.replicate (u ++ v).length true, rfl, SqL.of (by rw [h4, List.map_replicate]), ?_⟩
  have eall : (List.replicate (u ++ v).length true).all id = true := by rw [List.all_eq_true]; intro b hb; exact (List.mem_replicate.mp hb).2
  rw [eall]
  refine ⟨_, rfl, iteF ?_⟩
  have s4' := s3.trans s4
  have h4u := s4 _ _ h3u
  have h4v := s4 _ _ h3v
  have v0 : SerM.co v 0 = 1 := by rw [SerM.co0_ev]; exact I.red.v1
  have vn : 1 ≤ v.length := Nat.pos_of_ne_zero fun z => by rw [List.length_eq_zero_iff.mp z, SerM.co_nil] at v0; omega
  -- bottom[:1] != [1]
  refine ⟨_, rfl, _, rfl, l2, _, rfl, SqL.of h4v, fun d1 hd1 => ?_⟩
  have ecut : cutV (iv v) none (some 1) = iv [1] := by
    have : cutV (iv v) none (some ((1 : Nat) : Int)) = iv (v.take 1) := cut_take vn
    refine Eq.trans this ?_
    rw [take_last (Nat.le_refl 1) vn, Nat.sub_self, v0]; rfl
  rw [ecut]
  have s5 := s4'.trans (same_upd hd1 (.lst (iv [1])))
  have h5u : upd H4 d1 (.lst (iv [1])) l1 = some (.lst (iv u)) := by rw [upd_ne (ne_of_none h4u hd1)]; exact h4u
  have h5v : upd H4 d1 (.lst (iv [1])) l2 = some (.lst (iv v)) := by rw [upd_ne (ne_of_none h4v hd1)]; exact h4v
  have h5d : upd H4 d1 (.lst (iv [1])) d1 = some (.lst (iv [1])) := upd_same
  generalize upd H4 d1 (.lst (iv [1])) = H5 at s5 h5u h5v h5d ⊢
  refine ⟨(by show 1 ≤ sizeLine; decide), fun d2 hd2 => ?_⟩
  have s6 := s5.trans (same_upd hd2 (.lst [V.int 1]))
  have h6u : upd H5 d2 (.lst [V.int 1]) l1 = some (.lst (iv u)) := by rw [upd_ne (ne_of_none h5u hd2)]; exact h5u
  have h6v : upd H5 d2 (.lst [V.int 1]) l2 = some (.lst (iv v)) := by rw [upd_ne (ne_of_none h5v hd2)]; exact h5v
  have h6d : upd H5 d2 (.lst [V.int 1]) d1 = some (.lst (iv [1])) := by rw [upd_ne (ne_of_none h5d hd2)]; exact h5d
  have h6e : upd H5 d2 (.lst [V.int 1]) d2 = some (.lst (iv [1])) := upd_same
  generalize upd H5 d2 (.lst [V.int 1]) = H6 at s6 h6u h6v h6d h6e ⊢
  refine ⟨d1, d2, [1], [1], rfl, rfl, SqL.of h6d, SqL.of h6e, _, rfl, iteF ?_⟩
  -- bottom != trim(bottom)
  refine ⟨_, rfl, _, rfl, l2, v, rfl, SqL.of h6v, by omega, fun d3 H7 s7' hd3 h7 => ?_⟩
  rw [SerM.trim_id I.red.tv] at h7
  have s7 := s6.trans s7'
  have h7u := s7' _ _ h6u
  have h7v := s7' _ _ h6v
  refine ⟨l2, d3, v, v, rfl, rfl, SqL.of h7v, SqL.of h7, _, rfl, ?_⟩
  rw [decide_eq_true (rfl : v = v)]
  refine iteF ?_
  refine ⟨_, rfl, _, rfl, l1, u, rfl, SqL.of h7u, by omega, fun d4 H8 s8' hd4 h8 => ?_⟩
  rw [SerM.trim_id I.red.tu] at h8
  have s8 := s7.trans s8'
  have h8u := s8' _ _ h7u
  have h8v := s8' _ _ h7v
  refine ⟨l1, d4, u, u, rfl, rfl, SqL.of h8u, SqL.of h8, _, rfl, ?_⟩
  rw [decide_eq_true (rfl : u = u)]
  refine iteF ?_
  refine ⟨_, rfl, _, rfl, l1, l2, u, v, M, rfl, SqL.of h8u, SqL.of h8v, I.red.tu, I.red.tv, by omega, by omega, I.uc, I.vc, I.sm, fun H9 s9' => ?_⟩
  rw [SerM.copr_true I.red.cop I.red.v1 I.red.tu I.red.tv (by omega)]
  refine ⟨_, rfl, iteF ?_⟩
  have s9 := s8.trans s9'
  have h9u := s9' _ _ h8u
  have h9v := s9' _ _ h8v
  have up : ∀ {p : SerM.Po} {a b : Nat}, a ≤ b → (∀ i, (SerM.co p i).natAbs < 2 ^ a) → ∀ i, (SerM.co p i).natAbs < 2 ^ b := fun hab hp i => Nat.lt_of_lt_of_le (hp i) (Nat.pow_le_pow_right (by decide) hab)
  have c9 := I.c9
  have M9 := I.M9
  have pl := I.pl
  have ql := I.ql
  refine ⟨_, rfl, _, rfl, t, _, _, _, rfl, rfl, sameT s9 Rt, rfl, l1, y, u, q, max c M, rfl, SqL.of h9u, s9.seq Ry, by omega, by omega, up (by omega) I.uc, up (by omega) I.qc, by omega, fun m1 H10 s10' hm1 h10 => ?_⟩
  have s10 := s9.trans s10'
  refine ⟨_, rfl, t, _, _, _, rfl, rfl, sameT s10 Rt, rfl, _, rfl, x, l2, p, v, max c M, rfl, s10.seq Rx, SqL.of (s10' _ _ h9v), by omega, by omega, up (by omega) I.pc, up (by omega) I.vc, by omega, fun m2 H11 s11 hm2 h11 => ?_⟩
  have e : SerM.trim (SerM.mul u q) = SerM.trim (SerM.mul p v) := trim_co_ext fun i => SerM.co_of_ev 0 (fun x _ => by rw [SerM.ev_mul, SerM.ev_mul]; exact I.red.eq x) i
  refine ⟨m1, m2, _, _, rfl, rfl, SqL.of (s11 _ _ h10), SqL.of h11, ?_⟩
  rw [decide_eq_true e]
  exact qq H11 (s10.trans s11)
end
end Un
namespace Un
open PySem L2 TL
section
variable {P : Program} {w : World} {K : PySem.W.Frag} {mg : Str → Option Value} {base : Heap}
/-! ### plus, spread, order of the law -/
theorem iv_rep (p : SerM.Po) (k : Nat) : iv p ++ List.replicate k (V.int 0) = iv (p ++ List.replicate k 0) := by
  show _ = List.map V.int (p ++ List.replicate k 0)
  rw [List.map_append, List.map_replicate]
theorem co_rep (p : SerM.Po) (k i : Nat) : SerM.co (p ++ List.replicate k 0) i = SerM.co p i := by
  unfold SerM.co
  rw [List.getD_eq_getElem?_getD, List.getElem?_append, List.getD_eq_getElem?_getD]
  split
  · rfl
  · rename_i h
    rw [List.getElem?_replicate, List.getElem?_eq_none (l := p) (by omega)]
    split <;> rfl
def spPlusL (K : PySem.W.Frag) : Sp := fun vs H Q _ => ∃ (a b : Addr) (p q : SerM.Po) (t : Int), vs = [.ref a, .ref b, .int t] ∧ SqL K H a (iv p) ∧ SqL K H b (iv q) ∧ p.length ≤ 200 ∧ q.length ≤ 200 ∧ t.natAbs ≤ 1000 ∧ Out H (SerM.trim (SerM.add p (SerM.smul t q))) Q
end
end Un
namespace Un
open PySem L2 TL
section
variable {P : Program} {w : World} {K : PySem.W.Frag} {mg : Str → Option Value} {base : Heap}
def spSpreadL (K : PySem.W.Frag) : Sp := fun vs H Q _ => ∃ (a b : Addr) (p q : SerM.Po) (n : Nat) (c : Nat), vs = [.ref a, .ref b, .int (n : Int)] ∧ SqL K H a (iv p) ∧ SqL K H b (iv q) ∧ 1 ≤ q.length ∧ p.length ≤ 1000 ∧ q.length ≤ 1000 ∧ n ≤ 1001 ∧ (∀ i, (SerM.co p i).natAbs < 2 ^ c) ∧ (∀ i, (SerM.co q i).natAbs < 2 ^ c) ∧ c ≤ 9000 ∧ Out H (SerM.qt p q n) Q
def spOrderL (K : PySem.W.Frag) : Sp := fun vs H Q _ => ∃ (a : Addr) (p : SerM.Po), vs = [.ref a] ∧ SqL K H a (iv p) ∧ p.length ≤ 200 ∧ ∀ (z : V) (H' : Hp), Same H H' → OrdV p z → Q z H'
end
end Un
namespace Un
open PySem L2 TL
section
variable {P : Program} {w : World} {K : PySem.W.Frag} {mg : Str → Option Value} {base : Heap}
end
end Un
/-! ### an own class under len, repr, in, bool -/
namespace OwnX
open PySem L2 TL
section
variable {X : Cx} {k : Nat} {C f : Addr} {m : Str} {fd : FuncData} {ps : List Str} {sp : Sp}
structure OMt (P : Program) (w : World) (K : PySem.W.Frag) (mg : Str → Option Value) (base : Heap) (C : Addr) (k : Nat) (f : Addr) (fd : FuncData) (m : Str) (ps : List Str) (sp : Sp) : Prop where
  mt : Meth K C m f
  ok : FnOk P w K mg base CX0 k f fd ps sp
  b : Binds K fd ps []
/-- an own method, called by the interpreter itself -/
theorem run_own {A : Around} {pins : List (Addr × Obj)} {s : Shared} {σ : St} {H : Hp} {vs : List V} {us : List Value} {Q : VK} {E : Value → Shared → Prop} (M : OMt X.prog X.w X.K X.mg X.base C k f fd m ps sp) (hA : A.frames = X.A.frames) (hr : Room k A) (I : L2.Inv X pins σ H s) (r : Vals vs us) (q : sp vs H Q E0) :
    wpAny (model X.prog X.w) A (call (.ref f) us) (EP X pins σ Q) E s := by
  have hl : us.length = ps.length := by rw [← r.length]; exact M.ok.len _ _ _ _ q
  have b := M.b s us I.kIn (by rw [List.append_nil]; exact hl)
  rw [List.append_nil] at b
  have e0 := I.env0
  refine wpAny_call (codeAny_mono (M.ok.run A X.stack s H ⟨us, []⟩ us vs Q E0 hr ⟨hA.trans e0.frames, e0.mod, e0.bs, e0.bsz, e0.funs, e0.frf, e0.hok, e0.bare⟩ b r q) fun r s' hq => ?_)
  cases r with
  | error e => exact False.elim hq
  | ok fl =>
    cases fl with
    | ret u => exact I.after hq
    | next => exact False.elim hq
    | brk => exact False.elim hq
    | cont => exact False.elim hq
/-- len(obj) -/
theorem call_lenO (M : OMt X.prog X.w X.K X.mg X.base C k f fd "__len__" ps sp) (hr : Room (k + 1) X.A) : CallR X (.builtin "len") (fun xs H Q => ∃ a dx fs, xs = [.ref a] ∧ H a = some (.ins C dx fs) ∧ sp [.ref a] H (fun v H' => ∃ n : Nat, v = .int n ∧ n ≤ 100000 ∧ Q v H') E0) := by
  intro pins s σ H xs us Q I r h
  obtain ⟨a, dx, fs, rfl, ea, q⟩ := h
  obtain ⟨m, fr⟩ := I.fr
  obtain ⟨ox, od, J, _⟩ := StX.insC_at I (.inr ⟨dx, fs, ea⟩)
  cases r with
  | cons r1 r2 =>
  cases r2
  obtain rfl := r1
  refine PySem.W.len_K fr I.ok.mod.kin J M.mt.at_ M.mt.fn ?_
  refine wpAny_mono (run_own (pins := pins) (σ := σ) (A := X.A.in1) M (vs := [.ref a]) (us := [.ref a]) rfl hr.in1 I (.cons rfl .nil) q) (fun u s' hu => ?_) fun e s' he => he
  obtain ⟨v, H', I', rv, n, rfl, hn, q'⟩ := hu
  obtain ⟨t, rfl⟩ := rv
  exact ⟨⟨by omega, by omega⟩, .int n, H', I'.tok _, ⟨_, rfl⟩, q'⟩
/-- repr(obj) -/
theorem call_reprO (M : OMt X.prog X.w X.K X.mg X.base C k f fd "__repr__" ps sp) (hr : Room (k + 1) X.A) : CallR X (.builtin "repr") (fun xs H Q => ∃ a dx fs, xs = [.ref a] ∧ H a = some (.ins C dx fs) ∧ sp [.ref a] H (fun v H' => ∃ z : Str, v = .str z ∧ Q v H') E0) := by
  intro pins s σ H xs us Q I r h
  obtain ⟨a, dx, fs, rfl, ea, q⟩ := h
  obtain ⟨m, fr⟩ := I.fr
  obtain ⟨ox, od, J, _⟩ := StX.insC_at I (.inr ⟨dx, fs, ea⟩)
  cases r with
  | cons r1 r2 =>
  cases r2
  obtain rfl := r1
  refine PySem.W.repr_K (by have := hr.in1.un; omega) fr I.ok.mod.kin J M.mt.at_ M.mt.fn ?_
  refine wpAny_mono (run_own (pins := pins) (σ := σ) (A := X.A.in1) M (vs := [.ref a]) (us := [.ref a]) rfl hr.in1 I (.cons rfl .nil) q) (fun u s' hu => ?_) fun e s' he => he
  obtain ⟨v, H', I', rv, z, rfl, q'⟩ := hu
  obtain ⟨t, rfl⟩ := rv
  exact ⟨.str z, H', I', ⟨_, rfl⟩, q'⟩
end
end OwnX
/-! ### an own class under ==, !=, in, bool -/
namespace OwnX
open PySem PySem.Spec PyProof.Rows L2 TL
theorem meets_bool_in {prog : Program} {w : World} (x : Value) :
    MeetsIn prog w (Builtin.«bool.__new__» ⟨[.type "bool", x], []⟩) (fun A R s => wpAny (model prog w) A.in1 (truthy x) (fun b s' => R (.ok (.ret (.bool b))) s') (fun e s' => R (.error e) s') s) :=
  .of_wp fun A R s h => by
    obtain ⟨hp, g, d, tk, os⟩ := s
    have f1 := F.conv_sub_bool
    repeat (any_goals (first | assumption | (with_reducible refine wpAny_mono h (fun b s' z => ?_) fun _ _ z => z) | wp_step))
    all_goals first | exact wpAny_pure ⟨_, rfl, z⟩ | exact ⟨_, rfl, z⟩ | exact z | exact h | skip
section
variable {X : Cx} {k : Nat} {C f : Addr} {fd : FuncData} {ps : List Str} {sp : Sp}
/-- what == of an own class looks at first: the other value's type -/
def TyKn (K : PySem.W.Frag) (C : Addr) (y : V) (H : Hp) : Prop := (∃ b dy gs, y = .ref b ∧ H b = some (.ins C dy gs)) ∨ (∃ b ys, y = .ref b ∧ H b = some (.lst ys))
theorem sub_list {K : PySem.W.Frag} : PySem.W.subIn K (.type "list") (.ref C) = some false := by
  have e : fastBuiltinMro "list" = some [.type "list", .type "object"] := by decide +kernel
  show (fastBuiltinMro "list").map (·.contains (.ref C)) = some false
  rw [e]
  first
    | rfl
    | simp
theorem ty_looks {pins : List (Addr × Obj)} {s : Shared} {σ : L2.St} {H : Hp} {y : V} {u : Value} (I : L2.Inv X pins σ H s) (h : TyKn X.K C y H) (r : RelV y u) : ∃ tb, PySem.W.Looks (model X.prog X.w) s.heap (typeOf u) tb ∧ PySem.W.notFirst X.K C tb = true := by
  rcases h with ⟨b, dy, gs, rfl, eb⟩ | ⟨b, ys, rfl, eb⟩
  · obtain ⟨ox, od, J, _⟩ := StX.insC_at I (.inr ⟨dy, gs, eb⟩)
    cases r
    exact ⟨_, J.type, by simp [PySem.W.notFirst]⟩
  · cases r
    obtain ⟨its, rv, ⟨o, n, ho, hc, _, hd⟩, _⟩ := I.list (SqL.of (K := X.K) eb)
    exact ⟨.type "list", hc ▸ (PySem.W.Looks.ld ho).andThen .now, by unfold PySem.W.notFirst; rw [sub_list]; simp⟩
theorem op_eqO (M : OMt X.prog X.w X.K X.mg X.base C k f fd "__eq__" ps sp) (hr : Room k X.A) : OpR X (compareOp .Eq) (fun x y H Q => ∃ a dx fs, x = .ref a ∧ H a = some (.ins C dx fs) ∧ TyKn X.K C y H ∧ sp [.ref a, y] H (fun v H' => ∃ b, v = .bl b ∧ Q v H') E0) := by
  intro pins s σ H x y v u Q I rx ry h
  obtain ⟨a, dx, fs, rfl, ea, ty, q⟩ := h
  obtain ⟨m, fr⟩ := I.fr
  obtain ⟨ox, od, J, _⟩ := StX.insC_at I (.inr ⟨dx, fs, ea⟩)
  cases rx
  obtain ⟨tb, hb, hn⟩ := ty_looks I ty ry
  show wpAny (model X.prog X.w) X.A (richCompare .Eq (.ref a) u) (EP X pins σ Q) X.xe s
  refine PySem.W.cmp_K (op := .Eq) (tb := tb) hr.units0 fr I.ok.mod.kin J hb hn M.mt.at_ M.mt.fn ?_
  refine wpAny_mono (run_own (pins := pins) (σ := σ) (A := X.A) M (vs := [.ref a, y]) (us := [.ref a, u]) rfl hr I (.cons rfl (.cons ry .nil)) q) (fun r s' hu => ?_) fun e s' he => he
  obtain ⟨z, H', I', rv, b, rfl, q'⟩ := hu
  cases rv
  exact ⟨.bl b, H', I', rfl, q'⟩
theorem ifBound_objNe {M : Model} {A : Around} {E : Value → Shared → Prop} {s : Shared} {K : PySem.W.Frag} {x : Addr} {ox : Obj} {od : Option Obj} {args : List Value} {Q : Option Value → Shared → Prop} (X : K.In s.heap) (I : PySem.W.InstAt s.heap x ox C od) (hs : PySem.W.findIn K (.ref C) "__ne__" = some (some (.builtin "object.__ne__")))
    (h : wpAny M A (call (.builtin "object.__ne__") (.ref x :: args)) (fun v => Q (some v)) E s) : wpAny M A (callSpecialIfBound? (.ref x) "__ne__" args) Q E s := by
  simp only [callSpecialIfBound?, bindSpecialIfBound?]
  refine wpAny_holding (wpAny_bind (wpAny_bind (wpAny_bind (I.type.here ((PySem.W.looks_findIn X hs).here ?_)))))
  refine wpAny_bind (wpAny_askSetting (wpAny_ite ?_))
  have fin : wpAny M A (call (.builtin "object.__ne__") ([.ref x] ++ args) >>= fun v => pure (some v)) Q E s := wpAny_bind (wpAny_mono h (fun v s' h' => wpAny_pure h') fun _ _ h' => h')
  split
  · exact wpAny_bind (wpAny_of_eq (F.cmp_object.ne.bind _) (wpAny_pure (by exact fin)))
  · exact wpAny_tryCatch (wpAny_bind (wpAny_of_eq (F.cmp_object.ne.bind _) (wpAny_pure (by exact fin))))
/-- != by an own == -/
theorem op_neO (M : OMt X.prog X.w X.K X.mg X.base C k f fd "__eq__" ps sp) (hr : Room (k + 1) X.A) (hm : PySem.W.mroIn X.K C (.type "object") = some true) (hs : PySem.W.findIn X.K (.ref C) "__ne__" = some (some (.builtin "object.__ne__"))) :
    OpR X (compareOp .NotEq) (fun x y H Q => ∃ a dx fs, x = .ref a ∧ H a = some (.ins C dx fs) ∧ TyKn X.K C y H ∧ sp [.ref a, y] H (fun v H' => ∃ b, v = .bl b ∧ Q (.bl (!b)) H') E0) := by
  intro pins s σ H x y v u Q I rx ry h
  obtain ⟨a, dx, fs, rfl, ea, ty, q⟩ := h
  obtain ⟨m, fr⟩ := I.fr
  obtain ⟨ox, od, J, _⟩ := StX.insC_at I (.inr ⟨dx, fs, ea⟩)
  cases rx
  obtain ⟨tb, hb, hn⟩ := ty_looks I ty ry
  have hu1 := hr.in1.un
  have KI : X.K.In s.heap := I.kIn
  have one : wpAny (model X.prog X.w) X.A (tryCompare (.ref a) "__ne__" u) (fun r s' => ∃ v, r = some v ∧ EP X pins σ Q v s') X.xe s := by
    unfold tryCompare
    refine wpAny_bind (ifBound_objNe KI J hs (wpAny_call (codeAny_call_builtin F.cmp_object.ne.plain F.cmpEntry_ne (PySem.W.check_slot F.cmpKind_ne F.cmpSplit_ne (J.type.andThen (PySem.W.looks_mroIn KI hm)) (F.cmpArgs_ne _ _) ?_))))
    have hcall : wpAny (model X.prog X.w) X.A.in1 (call (.ref f) [.ref a, u]) (fun v s' => ∃ b, v = .bool b ∧ EP X pins σ Q (.bool (!b)) s') X.xe s := by
      refine wpAny_mono (run_own (pins := pins) (σ := σ) (A := X.A.in1) M (vs := [.ref a, y]) (us := [.ref a, u]) rfl hr.in1 I (.cons rfl (.cons ry .nil)) q) (fun r s' hu => ?_) fun e s' he => he
      obtain ⟨z, H', I', rv, b, rfl, q'⟩ := hu
      cases rv
      exact ⟨b, rfl, .bl (!b), H', I', rfl, q'⟩
    unfold Builtin.«object.__ne__»
    repeat (first
      | with_reducible refine wpAny_cRoomFor (by omega) ?_
      | (refine wpAny_bind (m := callSpecialIfBound? (.ref a) (Str.ofString "__eq__") [u])
          (PySem.W.ifBound_K KI J M.mt.at_ M.mt.fn (wpAny_mono hcall (fun r s' hr => by
            obtain ⟨b, rfl, hq⟩ := hr
            repeat (first | exact ⟨_, rfl, hq⟩ | exact hq | exact wpAny_pure ⟨_, rfl, hq⟩ | exact wpAny_pure (wpAny_pure ⟨_, rfl, hq⟩) | (refine wpAny_bind (m := truthy (.bool _)) (wpAny_truthy_bool ?_)) | wp_step)) fun _ _ e => e)))
      | wp_step)
  show wpAny (model X.prog X.w) X.A (richCompare .NotEq (.ref a) u) (EP X pins σ Q) X.xe s
  unfold richCompare
  simp only [oneThing_ref]
  refine wpAny_holding (wpAny_bind (wpAny_cRoomFor (by have := hr.units0; omega) ?_))
  refine wpAny_bind (J.type.here (wpAny_bind (hb.here ?_)))
  split
  · rename_i q
    have e : PySem.W.subIn X.K tb (.ref C) = some false := by
      rcases Bool.or_eq_true_iff.mp hn with e | e
      · rw [beq_iff_eq.mp e] at q; simp at q
      · exact beq_iff_eq.mp e
    refine wpAny_bind ((PySem.W.looks_subIn KI e).here ?_)
    simp only [Bool.false_eq_true, if_false]
    refine wpAny_bind (wpAny_mono one (fun r s' z => ?_) fun _ _ e => e)
    obtain ⟨v, rfl, hq⟩ := z
    exact wpAny_pure hq
  · refine wpAny_bind (wpAny_pure ?_)
    simp only [Bool.false_eq_true, if_false]
    refine wpAny_bind (wpAny_mono one (fun r s' z => ?_) fun _ _ e => e)
    obtain ⟨v, rfl, hq⟩ := z
    exact wpAny_pure hq
/-- y in obj -/
theorem op_inO (M : OMt X.prog X.w X.K X.mg X.base C k f fd "__contains__" ps sp) (hr : Room k X.A) : OpR X (compareOp .In) (fun x y H Q => ∃ a dx fs, y = .ref a ∧ H a = some (.ins C dx fs) ∧ sp [.ref a, x] H (fun v H' => ∃ b, v = .bl b ∧ Q v H') E0) := by
  intro pins s σ H x y v u Q I rx ry h
  obtain ⟨a, dx, fs, rfl, ea, q⟩ := h
  obtain ⟨m, fr⟩ := I.fr
  obtain ⟨ox, od, J, _⟩ := StX.insC_at I (.inr ⟨dx, fs, ea⟩)
  cases ry
  refine PySem.W.in_K fr I.ok.mod.kin J M.mt.at_ M.mt.fn ?_
  refine wpAny_mono (run_own (pins := pins) (σ := σ) (A := X.A) M (vs := [.ref a, x]) (us := [.ref a, v]) rfl hr I (.cons rfl (.cons rx .nil)) q) (fun r s' hu => ?_) fun e s' he => he
  obtain ⟨z, H', I', rv, b, rfl, q'⟩ := hu
  cases rv
  exact wpAny_truthy_bool ⟨.bl b, H', I', rfl, q'⟩
/-- bool(obj) -/
theorem call_boolO (M : OMt X.prog X.w X.K X.mg X.base C k f fd "__bool__" ps sp) (hr : Room (k + 2) X.A) : CallR X (.type "bool") (fun xs H Q => ∃ a dx fs, xs = [.ref a] ∧ H a = some (.ins C dx fs) ∧ sp [.ref a] H (fun v H' => ∃ b, v = .bl b ∧ Q v H') E0) := by
  intro pins s σ H xs us Q I r h
  obtain ⟨a, dx, fs, rfl, ea, q⟩ := h
  obtain ⟨m, fr⟩ := I.fr
  obtain ⟨ox, od, J, _⟩ := StX.insC_at I (.inr ⟨dx, fs, ea⟩)
  cases r with
  | cons r1 r2 =>
  cases r2
  obtain rfl := r1
  refine callType_newIn F.called_bool F.newNe_bool (F.typeCall_bool_1 _) (F.newCall_bool_1 _) (fun obj => F.args_object_init_2 obj _) F.entry_bool_new (meets_bool_in _) ?_
  refine PySem.W.truthy_K fr I.ok.mod.kin J M.mt.at_ M.mt.fn ?_
  refine wpAny_mono (run_own (pins := pins) (σ := σ) (A := X.A.in1.in1) M (vs := [.ref a]) (us := [.ref a]) rfl hr.in1.in1 I (.cons rfl .nil) q) (fun u s' hu => ?_) fun e s' he => he
  obtain ⟨v, H', I', rv, b, rfl, q'⟩ := hu
  cases rv
  exact ⟨rfl, .bl b, H', I', rfl, q'⟩
end
end OwnX

namespace OwnX
open PySem PySem.Spec PyProof.Rows L2 TL
section
variable {X : Cx} {k : Nat} {C f : Addr} {fd : FuncData} {ps : List Str} {sp : Sp}
def TyK2 (K : PySem.W.Frag) (C : Addr) (y : V) (H : Hp) : Prop := TyKn K C y H ∨ ∃ i, y = .int i
theorem sub_int {K : PySem.W.Frag} : PySem.W.subIn K (.type "int") (.ref C) = some false := by
  have e : fastBuiltinMro "int" = some [.type "int", .type "object"] := by decide +kernel
  show (fastBuiltinMro "int").map (·.contains (.ref C)) = some false
  rw [e]
  first
    | rfl
    | simp
theorem ty_looks2 {pins : List (Addr × Obj)} {s : Shared} {σ : L2.St} {H : Hp} {y : V} {u : Value} (I : L2.Inv X pins σ H s) (h : TyK2 X.K C y H) (r : RelV y u) : ∃ tb, PySem.W.Looks (model X.prog X.w) s.heap (typeOf u) tb ∧ PySem.W.notFirst X.K C tb = true := by
  rcases h with h | ⟨i, rfl⟩
  · exact ty_looks I h r
  · obtain ⟨t, rfl⟩ := r
    exact ⟨.type "int", .now, by unfold PySem.W.notFirst; rw [sub_int]; simp⟩
theorem op_eqO2 (M : OMt X.prog X.w X.K X.mg X.base C k f fd "__eq__" ps sp) (hr : Room k X.A) : OpR X (compareOp .Eq) (fun x y H Q => ∃ a dx fs, x = .ref a ∧ H a = some (.ins C dx fs) ∧ TyK2 X.K C y H ∧ sp [.ref a, y] H (fun v H' => ∃ b, v = .bl b ∧ Q v H') E0) := by
  intro pins s σ H x y v u Q I rx ry h
  obtain ⟨a, dx, fs, rfl, ea, ty, q⟩ := h
  obtain ⟨m, fr⟩ := I.fr
  obtain ⟨ox, od, J, _⟩ := StX.insC_at I (.inr ⟨dx, fs, ea⟩)
  cases rx
  obtain ⟨tb, hb, hn⟩ := ty_looks2 I ty ry
  show wpAny (model X.prog X.w) X.A (richCompare .Eq (.ref a) u) (EP X pins σ Q) X.xe s
  refine PySem.W.cmp_K (op := .Eq) (tb := tb) hr.units0 fr I.ok.mod.kin J hb hn M.mt.at_ M.mt.fn ?_
  refine wpAny_mono (run_own (pins := pins) (σ := σ) (A := X.A) M (vs := [.ref a, y]) (us := [.ref a, u]) rfl hr I (.cons rfl (.cons ry .nil)) q) (fun r s' hu => ?_) fun e s' he => he
  obtain ⟨z, H', I', rv, b, rfl, q'⟩ := hu
  cases rv
  exact ⟨.bl b, H', I', rfl, q'⟩
end
end OwnX
namespace Un
open PySem L2 TL
section
variable {P : Program} {w : World} {K : PySem.W.Frag} {mg : Str → Option Value} {base : Heap}
/-! ### what a series tells -/
abbrev sS_coef : Stmt := inClass sSeries 4
abbrev sS_first : Stmt := inClass sSeries 5
abbrev sS_eq : Stmt := inClass sSeries 16
structure IsS (K : PySem.W.Frag) (C : Addr) : Prop extends C8.InsC K C where
  lst : PySem.W.kitOne K (.type "list") (.ref C) = some false
  int : PySem.W.kitOne K (.type "int") (.ref C) = some false
theorem call_isS {X : Cx} {C : Addr} (c : IsS K C) (hK : X.K = K := by rfl) : CallR X (.builtin "isinstance") (fun xs H Q => (∃ a dx fs, xs = [.ref a, .ref C] ∧ H a = some (.ins C dx fs) ∧ Q (.bl true) H) ∨ (∃ a ys, xs = [.ref a, .ref C] ∧ H a = some (.lst ys) ∧ Q (.bl false) H) ∨ ∃ i, xs = [.int i, .ref C] ∧ Q (.bl false) H) := by
  subst hK
  intro pins s σ H xs us Q I r h
  rcases h with ⟨a, dx, fs, rfl, ha, q⟩ | ⟨a, ys, rfl, ha, q⟩ | ⟨i, rfl, q⟩
  · exact C8.call_isC c.toInsC pins s σ H _ us Q I r ⟨a, dx, fs, rfl, ha, q⟩
  · exact call_isi pins s σ H _ us Q I r ⟨_, _, _, _, _, rfl, .own C, .base (.lst ha), c.lst, q⟩
  · exact call_isi pins s σ H _ us Q I r ⟨_, _, _, _, _, rfl, .own C, .base (.int i), c.int, q⟩
def spCoef (C : Addr) : Sp := fun vs H Q _ => ∃ (a : Addr) (u v : SerM.Po) (n c : Nat), vs = [.ref a, .int (n : Int)] ∧ SerAt H C a u v ∧ 1 ≤ v.length ∧ u.length ≤ 1000 ∧ v.length ≤ 1000 ∧ n ≤ 1000 ∧ (∀ i, (SerM.co u i).natAbs < 2 ^ c) ∧ (∀ i, (SerM.co v i).natAbs < 2 ^ c) ∧ c ≤ 9000 ∧ ∀ H', Same H H' → Q (.int (SerM.co (SerM.qt u v (n + 1)) n)) H'
def spFirst (C : Addr) : Sp := fun vs H Q _ => ∃ (a : Addr) (u v : SerM.Po) (n c : Nat), vs = [.ref a, .int (n : Int)] ∧ SerAt H C a u v ∧ 1 ≤ v.length ∧ u.length ≤ 1000 ∧ v.length ≤ 1000 ∧ n ≤ 1000 ∧ (∀ i, (SerM.co u i).natAbs < 2 ^ c) ∧ (∀ i, (SerM.co v i).natAbs < 2 ^ c) ∧ c ≤ 9000 ∧ Out H (SerM.qt u v n) Q
theorem scS_coef : FnScope ["self", "k"] ["self", "k"] (defScope sS_coef) := ⟨rfl, rfl, rfl, by decide +kernel, rfl, by decide +kernel, by decide +kernel⟩
theorem ok_coef {f C g1 g2 : Addr} {fd d1 d2 : FuncData} {tb : Tok} (F : Fun K "coefficient" "Series.coefficient" sS_coef f fd) (C' : SerC K C) (mb : mg "MOST_BEATS" = some (.int 1000 tb)) (GN : Df P w K mg base 2 g1 d1 "is_number" ["value", "least", "most"] (spNumber K)) (GX : Df P w K mg base 1 g2 d2 "expanded" ["top", "bottom", "length"] (spExpanded K)) : FnOk P w K mg base CX0 3 f fd ["self", "k"] (spCoef C) := by
  refine F.ok scS_coef (fun vs H Q E h => ?_) (fun cdv A outer s H vs Q E hr h => ?_)
  · obtain ⟨a, u, v, n, c, rfl, _⟩ := h
    rfl
  obtain ⟨a, u, v, n, c, rfl, ⟨dx, x, y, z, h1, h2, h3, h4⟩, v1, ul, vl, hn, hu, hv, c9, q⟩ := h
  refine ⟨_, (pss_cons (ps_if (pt_not (pt_val (pe_call GN.ok (hr.mono (by decide)) (by rfl) GN.m GN.kp GN.b .nil pass0 (pa_cons (pv 1) (pa_cons pe_int (pa_cons (pe_glob (v := .int 1000) (by rfl) mb ⟨_, rfl⟩) pa_nil))))))
 pss_never
 pss_nil)
 (pss_one (ps_ret (pe_ix ix_list (pe_call GX.ok (hr.mono (by decide)) (by rfl) GX.m GX.kp GX.b .nil pass0 (pa_cons (pe_fld (pv 0) rfl) (pa_cons (pe_fld (pv 0) rfl) (pa_cons (pe_op op_add (pv 1) pe_int) pa_nil)))) (pv 1) (fun _ _ => rfl))))), ?_⟩
  refine ⟨_, rfl, _, 0, 1000, rfl, .inl ⟨_, rfl, ?_⟩⟩
  rw [decide_eq_true (show (0 : Int) ≤ (n : Int) by omega), decide_eq_true (show (n : Int) ≤ 1000 by omega)]
  refine ⟨_, rfl, iteF ?_⟩
  refine ⟨_, rfl, a, C, dx, _, _, rfl, h1, C'.cl, C'.t, rfl, _, rfl, a, C, dx, _, _, rfl, h1, C'.cl, C'.b, rfl, _, rfl, _, _, rfl, rfl, x, y, u, v, n + 1, c, rfl, SqL.of h2, SqL.of h3, v1, ul, vl, by omega, hu, hv, c9, fun m H1 s1 hm h1' => ?_⟩
  exact ⟨_, rfl, m, _, _, _, rfl, rfl, SqL.of h1', atI_nat (iv_at (by rw [SerM.qt_len]; omega)), q H1 s1⟩
theorem scS_first : FnScope ["self", "n"] ["self", "n"] (defScope sS_first) := ⟨rfl, rfl, rfl, by decide +kernel, rfl, by decide +kernel, by decide +kernel⟩
theorem ok_first {f C g1 g2 : Addr} {fd d1 d2 : FuncData} {tb : Tok} (F : Fun K "first" "Series.first" sS_first f fd) (C' : SerC K C) (mb : mg "MOST_BEATS" = some (.int 1000 tb)) (GN : Df P w K mg base 2 g1 d1 "is_number" ["value", "least", "most"] (spNumber K)) (GX : Df P w K mg base 1 g2 d2 "expanded" ["top", "bottom", "length"] (spExpanded K)) : FnOk P w K mg base CX0 3 f fd ["self", "n"] (spFirst C) := by
  refine F.ok scS_first (fun vs H Q E h => ?_) (fun cdv A outer s H vs Q E hr h => ?_)
  · obtain ⟨a, u, v, n, c, rfl, _⟩ := h
    rfl
  obtain ⟨a, u, v, n, c, rfl, ⟨dx, x, y, z, h1, h2, h3, h4⟩, v1, ul, vl, hn, hu, hv, c9, q⟩ := h
  refine ⟨_, (pss_cons (ps_if (pt_not (pt_val (pe_call GN.ok (hr.mono (by decide)) (by rfl) GN.m GN.kp GN.b .nil pass0 (pa_cons (pv 1) (pa_cons pe_int (pa_cons (pe_glob (v := .int 1000) (by rfl) mb ⟨_, rfl⟩) pa_nil))))))
 pss_never
 pss_nil)
 (pss_one (ps_ret (pe_call GX.ok (hr.mono (by decide)) (by rfl) GX.m GX.kp GX.b .nil pass0 (pa_cons (pe_fld (pv 0) rfl) (pa_cons (pe_fld (pv 0) rfl) (pa_cons (pv 1) pa_nil))))))), ?_⟩
  refine ⟨_, rfl, _, 0, 1000, rfl, .inl ⟨_, rfl, ?_⟩⟩
  rw [decide_eq_true (show (0 : Int) ≤ (n : Int) by omega), decide_eq_true (show (n : Int) ≤ 1000 by omega)]
  refine ⟨_, rfl, iteF ?_⟩
  exact ⟨_, rfl, a, C, dx, _, _, rfl, h1, C'.cl, C'.t, rfl, _, rfl, a, C, dx, _, _, rfl, h1, C'.cl, C'.b, rfl, _, rfl, x, y, u, v, n, c, rfl, SqL.of h2, SqL.of h3, v1, ul, vl, by omega, hu, hv, c9, q⟩
/-- ==: of two series, of a series and a list or a number -/
def spEqS (C : Addr) : Sp := fun vs H Q _ => (∃ (a b : Addr) (u v u' v' : SerM.Po), vs = [.ref a, .ref b] ∧ SerAt H C a u v ∧ SerAt H C b u' v' ∧ Q (.bl (decide (u = u') && decide (v = v'))) H) ∨ (∃ (a l : Addr) (xs : List V), vs = [.ref a, .ref l] ∧ H l = some (.lst xs) ∧ Q (.bl false) H) ∨ ∃ (a : Addr) (i : Int), vs = [.ref a, .int i] ∧ Q (.bl false) H
theorem scS_eq : FnScope ["self", "other"] ["self", "other"] (defScope sS_eq) := ⟨rfl, rfl, rfl, by decide +kernel, rfl, by decide +kernel, by decide +kernel⟩
theorem ok_serEq {f C : Addr} {fd : FuncData} (F : Fun K "__eq__" "Series.__eq__" sS_eq f fd) (C' : SerC K C) (IN : IsS K C) (mC : mg "Series" = some (.ref C)) (misi : mg "isinstance" = none) : FnOk P w K mg base CX0 1 f fd ["self", "other"] (spEqS C) := by
  refine F.ok scS_eq (fun vs H Q E h => ?_) (fun cdv A outer s H vs Q E hr h => ?_)
  · rcases h with ⟨a, b, u, v, u', v', rfl, _⟩ | ⟨a, l, xs, rfl, _⟩ | ⟨a, i, rfl, _⟩ <;> rfl
  refine ⟨_, (pss_one (ps_ret (pe_and (pe_callB (call_isS IN) (by rfl) misi (by decide +kernel) (pa_cons (pv 1) (pa_cons (C8.pe_gc (v := .ref C) (by rfl) ⟨_, mC, rfl⟩) pa_nil))) (pe_and (pe_cmpR (op_eqI hr.units) (pe_fld (pv 0) rfl) (pe_fld (pv 1) rfl) (nomark _)) (pe_one (pe_cmpR (op_eqI hr.units) (pe_fld (pv 0) rfl) (pe_fld (pv 1) rfl) (nomark _))))))), ?_⟩
  rcases h with ⟨a, b, u, v, u', v', rfl, ⟨dx, x, y, z, h1, h2, h3, h4⟩, ⟨dx', x', y', z', h1', h2', h3', h4'⟩, q⟩ | ⟨a, l, xs, rfl, hl, q⟩ | ⟨a, i, rfl, q⟩
  · refine ⟨.ref b, rfl, .inl ⟨b, dx', _, rfl, h1', true, rfl, iteT ?_⟩⟩
    refine ⟨_, rfl, a, C, dx, _, _, rfl, h1, C'.cl, C'.t, rfl, _, rfl, b, C, dx', _, _, rfl, h1', C'.cl, C'.t, rfl, x, x', u, u', rfl, rfl, SqL.of h2, SqL.of h2', _, rfl, ?_⟩
    by_cases e : u = u'
    · rw [decide_eq_true e] at q ⊢
      refine iteT ?_
      exact ⟨_, rfl, a, C, dx, _, _, rfl, h1, C'.cl, C'.b, rfl, _, rfl, b, C, dx', _, _, rfl, h1', C'.cl, C'.b, rfl, y, y', v, v', rfl, rfl, SqL.of h3, SqL.of h3', q⟩
    · rw [decide_eq_false e] at q ⊢
      exact iteF q
  · exact ⟨.ref l, rfl, .inr (.inl ⟨l, xs, rfl, hl, false, rfl, iteF q⟩)⟩
  · exact ⟨.int i, rfl, .inr (.inr ⟨i, rfl, false, rfl, iteF q⟩)⟩
end
end Un
namespace Un
open PySem L2 TL
section
variable {P : Program} {w : World} {K : PySem.W.Frag} {mg : Str → Option Value} {base : Heap}
end
end Un
/-! ### "".join(reversed(xs)), xs empty -/
namespace JnR
open PySem PySem.Spec PyProof.Rows L2
section
variable {prog : Program} {w : World} {A : Around} {E : Value → Shared → Prop} {s : Shared}
theorem join_rev0 {it l : Addr} {x : Str} {t : Tok} {Q : Value → Shared → Prop} (hh : A.handled = none) (hit : s.heap.IsRevIter it l (((#[] : Array Value).size : Int) - 1)) (hl : s.heap.IsList l #[]) (hne : l ≠ it)
    (hq : ∀ (h' : Heap), (∀ b o, b ≠ it → s.heap.get? b = some o → h'.get? b = some o) → ∀ t' k, Q (.str (Txt.join x []) t') { s with heap := h', toks := k }) : wpAny (model prog w) A (call (.builtin "str.join") [.str x t, .ref it]) Q E s := by
  refine wpAny_call (codeAny_call_builtin F.slot_str_join.plain F.entry_str_join (F.slot_str_join.check _ _ _ _ _ _ _ _ (typeIs_str _ _ _) (F.args_str_join_2 _ _) ?_))
  rw [join_tree_other]
  refine wpAny_bind (wpAny_typeOf hit.typeIs ?_)
  show wpAny _ A.in1 ((pyIter (.ref it)).tryCatch _ >>= fun i => collect i >>= fun items => joinTail x items) _ _ s
  refine wpAny_bind (wpAny_tryCatch (wpAny_pyIter_revIter hit ?_))
  have hh1 : A.in1.handled = none := hh
  refine wpAny_bind (RT.collect_rev (A := A.in1) hh1 hit hl hne (Nat.zero_le _) fun h' tk acc hk hacc => ?_)
  have e0 : acc.toList = strValues [] := by
    have h0 : acc.size = 0 := hacc.1
    rw [Array.eq_empty_of_size_eq_zero h0]; rfl
  rw [e0]
  have hok := joinOk_of (sep := x) (ys := []) (by simp)
  unfold JoinOk at hok
  rw [Bool.not_eq_true'] at hok
  have g0 := gives_joinTail x [] hok
  exact g0 prog w A (wants Q E) _ (post_join [] ⟨joinFit_length hok, fun t' k => hq h' hk t' k⟩)
end
section
variable {X : Cx}
theorem pe_joinRev0 {o e : Expr} {to : TE} {ta : TA} {apos pos p pos2 : Pos} (hc : X.calm = true) (ho : PE X o to) (hg : Gl X "reversed") (hm : X.mg "reversed" = none) (ha : PA X [e] ta)
    (hs1 : starEach [.Call (.Name "reversed" p) [e] [] pos2] X.env = [(false, eval (.Call (.Name "reversed" p) [e] [] pos2) X.env)] := by rfl) (hs : starEach [e] X.env = [(false, eval e X.env)] := by rfl)
    (hbase : attributeBase o "join" X.env (eval o X.env) = eval o X.env := by rfl) (hline : (apos.endLine == pos.line) = true := by rfl) :
    PE X (.Call (.Attribute o "join" apos) [.Call (.Name "reversed" p) [e] [] pos2] [] pos) (fun σ H Q => to σ H fun x H1 => ∃ a : Str, x = .str a ∧ ta σ H1 fun vs H2 => ∃ q, vs = [.ref q] ∧ SqL X.K H2 q [] ∧ Q (.str (Txt.join a [])) H2) := by
  refine ⟨fun pins s σ H Q I h => ?_⟩
  refine PySem.Call_method1 hbase hs1 hline (thn (ho.run pins s σ H _ I h) fun v s1 ⟨x, H1, I1, r1, q1⟩ => ?_)
  obtain ⟨a, rfl, q1⟩ := q1
  obtain ⟨t, rfl⟩ := _root_.id r1
  refine ⟨"str", _, F.plainAttrs_str, F.slot_str_join, F.type_str_join, typeIs_str _ _ _, (fun _ e => nomatch e), Calls.callWith_builtin rfl (Calls.evalArgs_plain (Calls.spliced_cons ?_))⟩
  refine Call_ (ld_blt I1 hg hm PyProof.Rows.boot_reversed (PyProof.Rows.callWith_type1 (thn (ha.run pos2 pins s1 σ H1 _ I1 q1) fun us s2 ⟨vs, H2, I2, r2, q2⟩ => ?_) hs rfl))
  obtain ⟨q, rfl, hq, q2⟩ := q2
  cases r2 with
  | cons r rr =>
    cases rr
    cases r
    obtain ⟨its, rv, pl, hz⟩ := I2.list hq
    cases rv
    refine call_reversed_list pl.isList (Calls.spliced_nil ?_)
    have hlist := pl.isList
    obtain ⟨ol, hol, _⟩ := id hlist
    have hne : q ≠ s2.heap.objs.size := Nat.ne_of_lt (Heap.lt_size hol)
    refine join_rev0 (s := { s2 with heap := s2.heap.push (revObj q (((#[] : Array Value).size : Int) - 1)) }) (I2.ok.hd hc) ⟨_, Heap.get?_push_size _ rfl, rfl, rfl⟩ (hlist.push _) hne fun h' hk t' k => ⟨.str _, H2, I2.kept (t' := k) (fun b u hb => hk b u (fun e => ?_) (Heap.get?_push_of_some _ hb)), ⟨t', rfl⟩, q2⟩
    exact absurd (Heap.lt_size hb) (by rw [e]; exact Nat.lt_irrefl _)
end
end JnR

namespace Un
open PySem L2 TL
section
variable {P : Program} {w : World} {K : PySem.W.Frag} {mg : Str → Option Value} {base : Heap}
/-! ### texts of numbers, rows, series -/
abbrev sDecimal : Stmt := top 29
abbrev sRowText : Stmt := top 30
abbrev sS_repr : Stmt := inClass sSeries 18
abbrev dcS (i : Int) : Str := ((toString i : String) : Str)
theorem str_ext {a b : Str} (h : tl a = tl b) : a = b := by
  cases a; cases b
  congr 1
  exact Array.toList_inj.mp h
theorem ofS_app (a b : String) : ((a ++ b : String) : Str) = (a : Str) ++ (b : Str) := by
  refine str_ext ?_
  rw [tl_append]
  show (Str.ofString (a ++ b)).cps.toList = (Str.ofString a).cps.toList ++ (Str.ofString b).cps.toList
  rw [PyProof.Rows.signs_ofString, PyProof.Rows.signs_ofString, PyProof.Rows.signs_ofString, String.toList_append, List.map_append]
def decT (n : Int) : Str := ((Str.empty ++ (if n < 0 then ("-" : Str) else ("" : Str))) ++ dcS (if n < 0 then -n else n)) ++ Txt.join ("" : Str) []
theorem decT_eq (n : Int) : decT n = dcS n := by
  have ee : ("" : Str) = Str.empty := by decide +kernel
  have ej : Txt.join ("" : Str) [] = Str.empty := by decide +kernel
  unfold decT
  rw [ej, Str.append_empty]
  split
  · rename_i h
    obtain ⟨m, rfl⟩ : ∃ m : Nat, n = Int.negSucc m := by
      cases n with
      | ofNat k => exact absurd h (Int.not_lt.mpr (Int.natCast_nonneg k))
      | negSucc m => exact ⟨m, rfl⟩
    have e1 : toString (Int.negSucc m) = "-" ++ toString (m + 1) := rfl
    have e2 : -(Int.negSucc m) = ((m + 1 : Nat) : Int) := rfl
    show (Str.empty ++ ("-" : Str)) ++ ((toString (-(Int.negSucc m)) : String) : Str) = ((toString (Int.negSucc m) : String) : Str)
    rw [e2, e1, Str.empty_append]
    have e3 : toString (((m + 1 : Nat) : Int)) = toString (m + 1) := rfl
    rw [e3, ofS_app]
  · rw [ee, Str.empty_append, Str.empty_append]
theorem dcS_len {n : Int} {k : Nat} (hk : 0 < k) (h : n.natAbs < 10 ^ k) : (dcS n).length ≤ k + 1 := by
  show (Str.ofString (toString n)).length ≤ _
  rw [ofString_length]
  exact int_text_length_le10 hk h
def spDecimal : Sp := fun vs H Q _ => ∃ n : Int, vs = [.int n] ∧ n.natAbs < 10 ^ 60 ∧ ∀ H', Same H H' → Q (.str (decT n)) H'
theorem scDecimal : FnScope ["number", "rest", "ends", "end", "sign", "tail"] ["number"] (defScope sDecimal) := ⟨rfl, rfl, rfl, by decide +kernel, rfl, by decide +kernel, by decide +kernel⟩
structure DecT (mg : Str → Option Value) : Prop where
  abs : mg "abs" = none
  rev : mg "reversed" = none
  str : mg "str" = none
  divmod : mg "divmod" = none
theorem ok_decimal {f : Addr} {fd : FuncData} (F : Fun K "decimal" "decimal" sDecimal f fd) (T : DecT mg) : FnOk P w K mg base CX0 1 f fd ["number"] spDecimal := by
  refine F.ok scDecimal (fun vs H Q E h => ?_) (fun cdv A outer s H vs Q E hr h => ?_)
  · obtain ⟨n, rfl, _⟩ := h
    rfl
  obtain ⟨n, rfl, hn, q⟩ := h
  refine ⟨_, (pss_cons (ps_set (i := 1) scDecimal.nd rfl (by first | exact Or.inl rfl | exact Or.inr rfl) (pe_callB call_abs (by rfl) T.abs (by decide +kernel) (pa_cons (pv 0) pa_nil)))
 (pss_cons (ps_set (i := 2) scDecimal.nd rfl (by first | exact Or.inl rfl | exact Or.inr rfl) (pe_lst pa_nil))
 (pss_cons (ps_while PassesOwn.never (pt_cmpR op_ge (pv 1) (pe_op op_pow pe_int pe_int) (nomark _))
 pss_never)
 (pss_cons (ps_set (i := 4) scDecimal.nd rfl (by first | exact Or.inl rfl | exact Or.inr rfl) (pe_ifExp (pt_cmpR op_lt (pv 0) pe_int (nomark _)) pe_str pe_str))
 (pss_cons (ps_set (i := 5) scDecimal.nd rfl (by first | exact Or.inl rfl | exact Or.inr rfl) (JnR.pe_joinRev0 rfl pe_str (by rfl) T.rev (pa_cons (pv 2) pa_nil)))
 (pss_one (ps_ret (pe_joined (.cons (pe_fmt (pv 4)) (.cons (pe_fmt (pv 1)) (.cons (pe_fmt (pv 5)) .nil))))))))))), ?_⟩
  refine ⟨_, rfl, _, rfl, ?_⟩
  generalize hm : (if n < 0 then -n else n) = m
  have m0 : 0 ≤ m ∧ m.natAbs = n.natAbs := by rw [← hm]; split <;> omega
  have hlt : m < 10 ^ 64 := by
    have : m.natAbs < 10 ^ 64 := by rw [m0.2]; exact Nat.lt_of_lt_of_le hn (Nat.pow_le_pow_right (by decide) (by decide))
    omega
  refine ⟨(by show 0 ≤ sizeLine; decide), fun l hl => ?_⟩
  have s1 := same_upd hl (.lst [])
  have h1 : upd H l (.lst []) l = some (.lst []) := upd_same
  generalize upd H l (.lst []) = H1 at s1 h1 ⊢
  refine ⟨fun k σ H2 => σ = [some (.int n), some (.int m), some (.ref l), none, none, none] ∧ H2 = H1, ⟨0, rfl, rfl⟩, ?_⟩
  rintro k σ H2 ⟨rfl, rfl⟩
  refine ⟨_, rfl, _, _, rfl, rfl, ⟨by decide, by decide, by decide⟩, _, _, rfl, rfl, _, rfl, ?_⟩
  rw [decide_eq_false (show ¬ (10 : Int) ^ ((64 : Int)).toNat ≤ m from fun z => by
    have e : ((64 : Int)).toNat = 64 := rfl
    rw [e] at z; omega)]
  refine iteF ?_
  have l1 : (dcS m).length ≤ 61 := dcS_len (k := 60) (by decide) (by rw [m0.2]; exact hn)
  have ej : Txt.join ("" : Str) [] = Str.empty := by decide +kernel
  have hsz : 1000000 < sizeLine := by decide
  have la : ∀ a b : Str, (a ++ b).length = a.length + b.length := fun a b => strLen_append a b
  have fin : ∀ sg : Str, sg = (if n < 0 then ("-" : Str) else ("" : Str)) → ∀ (σ : L2.St), σ = [some (V.int n), some (V.int m), some (V.ref l), none, some (V.str sg), some (V.str (Txt.join ("" : Str) []))] →
      tRet (fun σ H Q => tJs [tFmt (tVar 4), tFmt (tVar 1), tFmt (tVar 5)] Str.empty σ H fun out H1 => Q (V.str out) H1) { nx := fun x H' => Q V.non H', rt := Q } σ H2 := fun sg hsg σ hσ => by
    subst hσ
    have ls : sg.length ≤ 1 := by rw [hsg]; split <;> decide +kernel
    have le : (Str.empty : Str).length = 0 := rfl
    refine ⟨_, rfl, .inl ⟨_, rfl, by omega, _, rfl, by rw [la]; omega, ?_⟩⟩
    refine ⟨_, rfl, .inr ⟨_, rfl, ?_, _, rfl, by rw [la, la]; show _ + (dcS m).length ≤ _; omega, ?_⟩⟩
    · have : m.natAbs < 2 ^ 1920 := by rw [m0.2]; exact Nat.lt_of_lt_of_le hn (by decide +kernel)
      by_cases z : m.natAbs = 0
      · rw [z]; decide
      · exact (Nat.log2_lt z).mpr this
    refine ⟨_, rfl, .inl ⟨_, rfl, by rw [ej]; omega, _, rfl, by rw [la, la, la, ej]; show _ + (dcS m).length + _ ≤ _; omega, ?_⟩⟩
    have := q H2 s1
    unfold decT at this
    rw [← hsg, hm] at this
    exact this
  refine ⟨_, rfl, _, _, rfl, rfl, _, rfl, ?_⟩
  refine ite2 (fun c => ?_) (fun c => ?_)
  · have hc : n < 0 := of_decide_eq_true c
    exact ⟨_, rfl, _, rfl, l, rfl, SqL.of h1, fin _ (by rw [if_pos hc]) _ rfl⟩
  · have hc : ¬ n < 0 := fun z => c (decide_eq_true z)
    exact ⟨_, rfl, _, rfl, l, rfl, SqL.of h1, fin _ (by rw [if_neg hc]) _ rfl⟩
end
end Un
namespace Un
open PySem L2 TL
section
variable {P : Program} {w : World} {K : PySem.W.Frag} {mg : Str → Option Value} {base : Heap}
def rowT (p : SerM.Po) : Str := ((Str.empty ++ ("[" : Str)) ++ Txt.join (", " : Str) (p.map dcS)) ++ ("]" : Str)
theorem rowT_eq (p : SerM.Po) : listText (p.map dcS) = rowT p := by
  unfold rowT
  rw [listText_eq_join, Str.empty_append, TL.join_eq]
theorem la (a b : Str) : (a ++ b).length = a.length + b.length := strLen_append a b
theorem join_le : ∀ (ys : List Str) (n : Nat), (∀ y ∈ ys, y.length ≤ n) → (Str.join (", " : Str) ys).length ≤ ys.length * (n + 2)
  | [], n, h => Nat.zero_le _
  | [x], n, h => by
    have := h x List.mem_cons_self
    show x.length ≤ 1 * (n + 2)
    omega
  | x :: y :: r, n, h => by
    have h1 := h x List.mem_cons_self
    have h2 := join_le (y :: r) n fun z hz => h z (List.mem_cons_of_mem _ hz)
    show (x ++ (", " : Str) ++ Str.join (", " : Str) (y :: r)).length ≤ _
    rw [la, la, List.length_cons, Nat.succ_mul]
    have h3 : ((", " : Str)).length = 2 := by decide +kernel
    omega
def SmallP (p : SerM.Po) : Prop := p.length ≤ 100 ∧ ∀ i, (SerM.co p i).natAbs < 10 ^ 60
theorem SmallP.mem {p : SerM.Po} (h : SmallP p) {n : Int} (hn : n ∈ p) : n.natAbs < 10 ^ 60 := by
  obtain ⟨i, hi, rfl⟩ := List.mem_iff_getElem.mp hn
  have := h.2 i
  unfold SerM.co at this
  rwa [List.getD_eq_getElem?_getD, List.getElem?_eq_getElem hi] at this
theorem SmallP.len {p : SerM.Po} (h : SmallP p) : ∀ y ∈ p.map dcS, y.length ≤ 61 := fun y hy => by
  obtain ⟨n, hn, rfl⟩ := List.mem_map.mp hy
  exact dcS_len (k := 60) (by decide) (h.mem hn)
theorem SmallP.join {p : SerM.Po} (h : SmallP p) : (Txt.join (", " : Str) (p.map dcS)).length ≤ 6300 := by
  rw [TL.join_eq]
  have h1 := join_le (p.map dcS) 61 h.len
  rw [List.length_map] at h1
  have h2 := Nat.mul_le_mul_right 63 h.1
  exact Nat.le_trans h1 h2
theorem SmallP.row {p : SerM.Po} (h : SmallP p) : (rowT p).length ≤ 6302 := by
  have h1 := h.join
  unfold rowT
  rw [la, la, la]
  have e1 : (("[" : Str)).length = 1 := by decide +kernel
  have e2 : (("]" : Str)).length = 1 := by decide +kernel
  have e3 : (Str.empty : Str).length = 0 := rfl
  omega
def spRowText (K : PySem.W.Frag) : Sp := fun vs H Q _ => ∃ (a : Addr) (p : SerM.Po), vs = [.ref a] ∧ SqL K H a (iv p) ∧ SmallP p ∧ ∀ H', Same H H' → Q (.str (rowT p)) H'
theorem scRowText : FnScope ["row", "items", "number"] ["row"] (defScope sRowText) := ⟨rfl, rfl, rfl, by decide +kernel, rfl, by decide +kernel, by decide +kernel⟩
theorem ok_rowText {f g : Addr} {fd gd : FuncData} (F : Fun K "row_text" "row_text" sRowText f fd) (GD : Df P w K mg base 1 g gd "decimal" ["number"] spDecimal) : FnOk P w K mg base CX0 2 f fd ["row"] (spRowText K) := by
  refine F.ok scRowText (fun vs H Q E h => ?_) (fun cdv A outer s H vs Q E hr h => ?_)
  · obtain ⟨a, p, rfl, _⟩ := h
    rfl
  obtain ⟨a, p, rfl, R, sm, q⟩ := h
  have hsz : 1000000 < sizeLine := by decide
  have pl := sm.1
  refine ⟨_, (pss_cons (ps_set (i := 1) scRowText.nd rfl (by first | exact Or.inl rfl | exact Or.inr rfl) (pe_join pe_str (pe_lc (own := [("number", 2)]) (g := (gName 2)) rfl scRowText.nd (pi_list (pv 0)) (blkOk_by (own := [("number", 2)]) (N := ["row", "items", "number"]) (sc := defScope sRowText) (by decide +kernel)) (fun _ _ _ _ _ => (pg_name (i := 2) scRowText.nd rfl (Or.inl rfl) (Or.inr rfl))) (fun _ _ _ _ _ => pts_nil) (fun _ _ _ _ _ => (pe_call GD.ok (hr.mono (by decide)) (by rfl) GD.m GD.kp GD.b .nil pass0 (pa_cons (pv 2) pa_nil))))))
 (pss_one (ps_ret (pe_joined (.cons pe_str (.cons (pe_fmt (pv 1)) (.cons pe_str .nil))))))), ?_⟩
  refine ⟨⟨_, rfl⟩, _, rfl, a, rfl, ⟨_, R⟩, fun D hD => ?_⟩
  refine lc_it (walk_list (K := K) (xs := iv p)) (fun i H2 => Same H H2 ∧ H2 D = some (.lst (((p.take i).map dcS).map V.str))) ⟨same_upd hD _, upd_same⟩ (fun i H2 _ h => h.1.seq R) ?_ ?_
  · rintro i v H2 H3 hi ⟨s2, h2⟩ ⟨rfl, hv⟩
    obtain ⟨hi', rfl⟩ := iv_get hv
    have hmem : SerM.co p i ∈ p := by
      unfold SerM.co
      rw [List.getD_eq_getElem?_getD, List.getElem?_eq_getElem hi']
      exact List.getElem_mem hi'
    refine ⟨rfl, _, rfl, _, rfl, sm.2 i, fun H4 s4 => ?_⟩
    rw [decT_eq]
    refine ⟨_, s4 _ _ h2, by rw [List.length_map, List.length_map, List.length_take]; omega, fun o ob hb => ?_, ?_⟩
    · rw [upd_ne (ne_of_none hb hD)]; exact s4 _ _ (s2 _ _ hb)
    · rw [upd_same, List.take_add_one, List.getElem?_eq_getElem hi']
      have e : SerM.co p i = p[i] := by
        unfold SerM.co
        rw [List.getD_eq_getElem?_getD, List.getElem?_eq_getElem hi']; rfl
      rw [e]
      simp only [Option.toList_some, List.map_append, List.map_cons, List.map_nil]
  · rintro H2 ⟨s2, h2⟩
    rw [List.length_map, List.take_length] at h2
    have lj := sm.join
    have ln := sm.len
    have le : (Str.empty : Str).length = 0 := rfl
    have e1 : (("[" : Str)).length = 1 := by decide +kernel
    have e2 : (("]" : Str)).length = 1 := by decide +kernel
    refine ⟨_, D, p.map dcS, rfl, rfl, .inl (SqL.of h2), ?_, ?_⟩
    · have hs : ∀ (ys : List Str), (∀ y ∈ ys, y.length ≤ 61) → (ys.map (·.length)).sum ≤ ys.length * 61 := fun ys => by
        induction ys with
        | nil => intro _; exact Nat.zero_le _
        | cons y ys ih =>
          intro h
          have h1 := h y List.mem_cons_self
          have h2 := ih fun z hz => h z (List.mem_cons_of_mem _ hz)
          rw [List.map_cons, List.sum_cons, List.length_cons, Nat.succ_mul]
          omega
      have h1 := hs _ ln
      have e3 : ((", " : Str)).length = 2 := by decide +kernel
      rw [e3]
      rw [List.length_map] at h1 ⊢
      omega
    refine ⟨_, rfl, by rw [la]; omega, ?_⟩
    refine ⟨_, rfl, .inl ⟨_, rfl, by omega, _, rfl, by rw [la, la]; omega, ?_⟩⟩
    refine ⟨_, rfl, by rw [la, la, la]; omega, ?_⟩
    exact q H2 s2
def serT (u v : SerM.Po) : Str := ((((Str.empty ++ ("Series(" : Str)) ++ rowT u) ++ (", " : Str)) ++ rowT v) ++ (")" : Str)
def spReprS (C : Addr) : Sp := fun vs H Q _ => ∃ (a : Addr) (u v : SerM.Po), vs = [.ref a] ∧ SerAt H C a u v ∧ SmallP u ∧ SmallP v ∧ ∀ H', Same H H' → Q (.str (serT u v)) H'
theorem scS_repr : FnScope ["self"] ["self"] (defScope sS_repr) := ⟨rfl, rfl, rfl, by decide +kernel, rfl, by decide +kernel, by decide +kernel⟩
theorem ser_len {x y : Str} (hx : x.length ≤ 6302) (hy : y.length ≤ 6302) : (Str.empty ++ ("Series(" : Str)).length ≤ sizeLine ∧ ((Str.empty ++ ("Series(" : Str)) ++ x).length ≤ sizeLine ∧ (((Str.empty ++ ("Series(" : Str)) ++ x) ++ (", " : Str)).length ≤ sizeLine ∧ ((((Str.empty ++ ("Series(" : Str)) ++ x) ++ (", " : Str)) ++ y).length ≤ sizeLine ∧ (((((Str.empty ++ ("Series(" : Str)) ++ x) ++ (", " : Str)) ++ y) ++ (")" : Str)).length ≤ sizeLine := by
  have hsz : 1000000 < sizeLine := by decide
  have le : (Str.empty : Str).length = 0 := rfl
  have e1 : (("Series(" : Str)).length = 7 := by decide +kernel
  have e2 : ((", " : Str)).length = 2 := by decide +kernel
  have e3 : ((")" : Str)).length = 1 := by decide +kernel
  simp only [la]
  omega
theorem ok_serRepr {f C g : Addr} {fd gd : FuncData} (F : Fun K "__repr__" "Series.__repr__" sS_repr f fd) (C' : SerC K C) (GR : Df P w K mg base 2 g gd "row_text" ["row"] (spRowText K)) : FnOk P w K mg base CX0 3 f fd ["self"] (spReprS C) := by
  refine F.ok scS_repr (fun vs H Q E h => ?_) (fun cdv A outer s H vs Q E hr h => ?_)
  · obtain ⟨a, u, v, rfl, _⟩ := h
    rfl
  obtain ⟨a, u, v, rfl, ⟨dx, x, y, z, h1, h2, h3, h4⟩, su, sv, q⟩ := h
  have hsz : 1000000 < sizeLine := by decide
  refine ⟨_, (pss_one (ps_ret (pe_joined (.cons pe_str (.cons (pe_fmt (pe_call GR.ok (hr.mono (by decide)) (by rfl) GR.m GR.kp GR.b .nil pass0 (pa_cons (pe_fld (pv 0) rfl) pa_nil))) (.cons pe_str (.cons (pe_fmt (pe_call GR.ok (hr.mono (by decide)) (by rfl) GR.m GR.kp GR.b .nil pass0 (pa_cons (pe_fld (pv 0) rfl) pa_nil))) (.cons pe_str .nil)))))))), ?_⟩
  obtain ⟨l1, l2, l3, l4, l5⟩ := ser_len su.row sv.row
  have ru := su.row
  have rv := sv.row
  refine ⟨_, rfl, l1, ?_⟩
  refine ⟨_, rfl, a, C, dx, _, _, rfl, h1, C'.cl, C'.t, rfl, x, u, rfl, SqL.of h2, su, fun H1 s1 => ?_⟩
  refine .inl ⟨_, rfl, by omega, _, rfl, l2, ?_⟩
  refine ⟨_, rfl, l3, ?_⟩
  refine ⟨_, rfl, a, C, dx, _, _, rfl, s1 _ _ h1, C'.cl, C'.b, rfl, y, v, rfl, SqL.of (s1 _ _ h3), sv, fun H2 s2 => ?_⟩
  refine .inl ⟨_, rfl, by omega, _, rfl, l4, ?_⟩
  exact ⟨_, rfl, l5, q H2 (s1.trans s2)⟩
end
end Un
namespace Un
open PySem L2 TL
section
variable {P : Program} {w : World} {K : PySem.W.Frag} {mg : Str → Option Value} {base : Heap}
end
end Un
/-! ### {xs} of a list of whole numbers, at the law's own level -/
namespace FmL
open PySem PySem.Spec PyProof.Rows L2
section
variable {X : Cx}
abbrev inT (i : Int) : Str := ((toString i : String) : Str)
def tFmtL (K : PySem.W.Frag) (te : TE) : TE := fun σ H Q => te σ H fun x H1 => ∃ (a : Addr) (p : List Int), x = .ref a ∧ SqL K H1 a (p.map V.int) ∧ (∀ n ∈ p, n.natAbs.log2 < 1920) ∧ (listText (p.map inT)).length ≤ sizeLine ∧ Q (.str (listText (p.map inT))) H1
theorem pe_fmtL {e : Expr} {te : TE} {pos : Pos} {k : Nat} (hr : Room k X.A) (hg : X.A.guards = some []) (he : PE X e te) : PE X (.FormattedValue e (-1) none pos) (tFmtL X.K te) := by
  refine ⟨fun pins s σ H Q I h => ?_⟩
  refine wpAny_FormattedValue_plain (thn (he.run pins s σ H _ I h) fun v s1 hv => ?_)
  obtain ⟨x, H1, I1, r1, a, p, rfl, hl, hn, hz, q⟩ := hv
  cases r1
  obtain ⟨its, rv, pl, _⟩ := I1.list hl
  have hlist := pl.isList
  obtain ⟨o, ho, hcl, n, hd⟩ := id hlist
  have hu := hr.units
  have ty : s1.TypeIs (.ref a) "list" := ⟨o, ho, hcl⟩
  refine wpAny_formatField_slot (fun _ _ => nofun) (by omega) ty F.slot_list_format F.slot_list_str F.slot_list_repr.toG ?_
  have hg2 : X.A.in1.in1.guards = some [] := hg
  cases p with
  | nil =>
    cases rv
    have e0 : listText [] = ("[]" : Str) := by decide +kernel
    rw [show listText (([] : List Int).map inT) = ("[]" : Str) from e0] at q
    refine call_list_repr_empty (s := { s1 with toks := s1.toks + 1 }) ty ho hd ⟨_, _, rfl, .str _, H1, I1.tok _, ⟨_, rfl⟩, q⟩
  | cons m r =>
    cases its with
    | nil => cases rv
    | cons y l =>
      have key : ∀ {ns : List Int} {us : List Value}, Vals (ns.map V.int) us → ∀ (i : Nat) (u : Value), us[i]? = some u → ∃ n t, ns[i]? = some n ∧ u = .int n t := by
        intro ns
        induction ns with
        | nil => intro us h i u hu; cases h; simp at hu
        | cons n ns ih =>
          intro us h i u hu
          cases h with
          | cons h1 h2 =>
            cases i with
            | zero =>
              obtain ⟨t, rfl⟩ := h1
              cases hu
              exact ⟨n, t, rfl, rfl⟩
            | succ i => exact ih h2 i u hu
      refine call_list_repr (s := { s1 with toks := s1.toks + 1 }) (g := []) (ts := (m :: r).map inT) ty hg2 (fun _ _ _ h => nomatch h) ho hd (by have := rv.length; simpa using this) (fun i u hu => ?_) (fun h' u tk hk => ⟨_, _, rfl, .str _, H1, ?_, ⟨_, rfl⟩, q⟩) hz
      · have hu' : (y :: l)[i]? = some u := by simpa using hu
        obtain ⟨n', t, hn', rfl⟩ := key rv i u hu'
        refine ⟨inT n', by rw [List.getElem?_map, hn']; rfl, ?_⟩
        exact ReprIs.int t (hn _ (List.mem_of_getElem? hn'))
      · exact I1.kept hk
end
end FmL
/-! ### a law's def, called where the checker calls it: what is known of that place may be used -/
namespace AtL
open PySem PySem.Spec PyProof.Rows L2
/-- a promise of the def at f, for the one place callerA -/
structure LawFn (pr : Program) (wo : World) (Kf : PySem.W.Frag) (gm : Str → Option Value) (bs : Heap) (lv : Nat) (at_ : Addr) (code : FuncData) (names : List Str) (prom : Sp) : Prop where
  count : ∀ xs h q e, prom xs h q e → xs.length = names.length
  goes : ∀ (up : List Env) (st : Shared) (h : Hp) (ar : Args) (raw : List Value) (xs : List V) (q : VK) (e : XK),
    Env0 pr wo Kf gm bs callerA up st h → BindsTo st code ar (names.zip raw) → Vals xs raw →
    prom xs h q e → codeAny (model pr wo) callerA (.call (.ref at_) ar) (CR CX0 up pr wo h st q e) st
theorem lawFn_ok {pr : Program} {wo : World} {Kf : PySem.W.Frag} {gm : Str → Option Value} {bs : Heap} {lv : Nat} {nm ql : Str} {stm : Stmt} {at_ : Addr} {code : FuncData} {sl names : List Str} {prom : Sp}
    (FF : Fun Kf nm ql stm at_ code) (SC : FnScope sl names (defScope stm)) (room : Room (lv + 1) callerA) (count : ∀ xs h q e, prom xs h q e → xs.length = names.length)
    (body : ∀ (cd : Value) (up : List Env) (st : Shared) (h : Hp) (xs : List V) (q : VK) (e : XK), Room lv (callerA.deeper (envOfC ql (defScope stm) st.heap.objs.size at_ cd)) → prom xs h q e →
      ∃ tm, PSs (cxOf CX0 pr wo Kf gm bs sl ql (defScope stm) at_ cd callerA up st h e).nox (defBody stm) tm ∧ tm { nx := fun _ h' => q .non h', rt := q } (L2.start sl xs) h) : LawFn pr wo Kf gm bs (lv + 1) at_ code names prom := by
  obtain ⟨c1, d1, k1, p1, p2, a1, cd, c2, s1, rfl, look, isC⟩ := FF.ex
  refine ⟨count, fun up st h ar raw xs q e env bd rel pm => ?_⟩
  have same := count _ _ _ _ pm
  have kin : Kf.In st.heap := env.mod.kin.keeps fun b o z => (env.bs b o z).1
  have free : st.heap.NoLimit := env.mod.nolimit.keeps fun b o z => (env.bs b o z).1
  have kinds : ∀ y ∈ names.zip raw, (defScope stm).names.lookup y.1 = some .local ∨ ((defScope stm).names.lookup y.1 = some .cell ∧ ((cellsFrom (st.heap.objs.size + 1) (defScope stm).names []).lookup y.1).isSome = true) := by
    rintro ⟨u, v⟩ hy
    exact (SC.par u (List.of_mem_zip hy).1).imp id fun z => ⟨z, PySem.W.cellsFrom_some _ _ _ (.inl z)⟩
  refine codeAny_call_function room.depth (kin _ _ look) rfl SC.co SC.gen rfl (PySem.W.codeRec_of kin isC) (bd _ _ _ _ (wpAny_newFunctionEnv_cells SC.kind kinds fun ev eq st1 call => ?_))
  cases eq
  refine ⟨free.keeps call.toInCall.keep, codeAny_func ?_⟩
  obtain ⟨tm, good, now⟩ := body cd up st h xs q e (room.deeper _) pm
  have inv := inv_start (CX := CX0) (E := e) SC room.hd env same rel call
  refine wpAny_mono (good.nox.run [] st1 _ h _ inv now) (fun fl st2 done => ?_) fun _ _ z => z
  have close : ∀ {σ : L2.St} {h' : Hp} {v : V} {u : Value}, L2.Inv (cxOf CX0 pr wo Kf gm bs sl ql (defScope stm) at_ cd callerA up st h e) [] σ h' st2 → RelV v u → q v h' → CE up pr wo h st q u st2 :=
    fun {σ h' v u} J rv z => ⟨v, h', J.os, J.bare, J.base, J.hok, rv, z⟩
  match fl, done with
  | .ret u, ⟨v, _, _, J, rv, z⟩ => exact close J rv z
  | .next, ⟨_, _, J, z⟩ => exact close (v := V.non) (u := Value.none) J rfl z
  | .brk, ⟨_, _, _, z⟩ => exact z.elim
  | .cont, ⟨_, _, _, z⟩ => exact z.elim
/-- the whole law, from such a promise over every base -/
theorem law_goes {pr : Program} {wo : World} {Kf : PySem.W.Frag} {gm gb : Str → Option Value} {lv : Nat} {fa l : Addr} {code : FuncData} {nm : Str} {prom : Sp} {st : Shared} {raw : List Value} {ns : List Int}
    (kin : Kf.In st.heap) (top : st.heap.Ns mainGlobals gm) (blt : st.heap.Ns builtinsNs gb) (boot : ∀ x : Str, x ≠ "__name__" → gb x = bootBuiltins x) (free : st.heap.NoLimit) (still : st.gens = #[])
    (stands : st.heap.get? l = some { cls := .type "list", data := .seq raw.toArray }) (allInt : IntsAre raw ns) (small : ns.length ≤ sizeLine)
    (FF : ∀ bs : Heap, Kf.In bs → bs.Ns mainGlobals gm → LawFn pr wo Kf gm bs lv fa code [nm] prom) (bd : ∀ (s : Shared) (u : Value), BindsTo s code ⟨[u], []⟩ [(nm, u)])
    (says : ∀ h : Hp, Only h → SqL Kf h l (ns.map V.int) → prom [.ref l] h (fun v _ => v = .bl true) fun _ _ _ => False) :
    codeAny (model pr wo) callerA (.call (.ref fa) ⟨[.ref l], []⟩) (fun r s' => r = .ok (.ret (.bool true)) ∧ OldK st.heap s'.heap ∧ s'.os = st.os ∧ AllBare s'.gens) st := by
  have rel := vals_ints allInt
  have rawl := allInt.length
  have main : ∀ h : Hp, Only h → SqL Kf h l (ns.map V.int) → HOk pr wo h st.heap → (∀ b, h b ≠ none → b = l) → (h l ≠ none → Kf.lookup l = none) →
      codeAny (model pr wo) callerA (.call (.ref fa) ⟨[.ref l], []⟩) (fun r s' => r = .ok (.ret (.bool true)) ∧ OldK st.heap s'.heap ∧ s'.os = st.os ∧ AllBare s'.gens) st := fun h only seq ok alone notK => by
    have hidden : ∀ {b : Addr} {o : Obj}, st.heap.get? b = some o → h b = none → (hidT st.heap h).get? b = some o := fun x y => hidT_get x y
    have dicts : ∀ {b : Addr} {o : Obj} {es : Array DictEntry} {n : Nat}, st.heap.get? b = some o → o.data = .dict es n → h b = none := fun {b o es n} x y => Classical.byContradiction fun z => by
      obtain rfl := alone b z
      rw [stands] at x
      cases x
      exact absurd (show Data.seq raw.toArray _ = Data.dict es n from y) (fun c => by cases c)
    have spaces : ∀ {b : Addr} {m : Str → Option Value}, st.heap.Ns b m → (hidT st.heap h).Ns b m := fun {b m} ⟨o, es, n, x, y, z⟩ => ⟨o, es, n, hidden x (dicts x y), y, z⟩
    have kbase : Kf.In (hidT st.heap h) := fun b o x => hidden (kin b o x) (Classical.byContradiction fun z => by
      obtain rfl := alone b z
      rw [notK z] at x
      cases x)
    have md : Mod Kf gm (hidT st.heap h) := ⟨kbase, spaces top, ⟨gb, spaces blt, boot⟩, free.elim fun m z => ⟨m, spaces z.1, z.2⟩⟩
    have env : Env0 pr wo Kf gm (hidT st.heap h) callerA [] st h := ⟨rfl, md, fun b o z => of_hidT z, Nat.le_of_eq (hidT_size _ _), trivial, fun b z => absurd (show b ∈ ([] : List Addr) from z) (by simp), ok, .of_eq still⟩
    refine codeAny_mono ((FF _ kbase (spaces top)).goes [] st h ⟨[.ref l], []⟩ [.ref l] [.ref l] _ _ env (bd st (.ref l)) (.cons rfl .nil) (says h only seq)) fun r st2 done => ?_
    match r, done with
    | .error e, done => exact False.elim done
    | .ok .next, done => exact False.elim done
    | .ok .brk, done => exact False.elim done
    | .ok .cont, done => exact False.elim done
    | .ok (.ret u), ⟨v, h2, os, bare, un, ok2, rv, z⟩ =>
      obtain rfl : v = .bl true := z
      obtain rfl : u = Value.bool true := rv
      refine ⟨rfl, OldK.of_keep fun b o x => ?_, os, bare⟩
      cases e : h b with
      | none => exact un.keep b o x e (fun z => absurd (show b ∈ ([] : List Addr) from z) (by simp)) (by simp)
      | some t =>
        rcases only b with z | ⟨ob, ys, z⟩
        · exact absurd (e.symm.trans z) (fun c => by cases c)
        · obtain ⟨g1, _⟩ := ok b _ z
          obtain ⟨g2, _⟩ := ok2 b _ (un.frzs b ob _ z)
          rw [x] at g1
          cases g1
          exact g2
  by_cases hk : ∃ o, Kf.lookup l = some o
  · obtain ⟨o, hk⟩ := hk
    have x := kin l o hk
    rw [stands] at x
    cases x
    exact main (fun _ => none) (fun _ => .inl rfl) (.inr ⟨_, raw.toArray, _, hk, rfl, rfl, rfl, by rw [List.size_toArray, rawl]; exact small, by simpa using rel⟩) (fun b u z => nomatch (show (none : Option HO) = some u from z)) (fun b z => absurd rfl z) fun z => absurd rfl z
  · have hk' : Kf.lookup l = none := Option.eq_none_iff_forall_ne_some.mpr fun o z => hk ⟨o, z⟩
    let h : Hp := fun b => if b = l then some (.frz { cls := .type "list", data := .seq raw.toArray } (.lst (ns.map V.int))) else none
    have hl : h l = some (.frz { cls := .type "list", data := .seq raw.toArray } (.lst (ns.map V.int))) := if_pos rfl
    have ho : ∀ b, b ≠ l → h b = none := fun b n => if_neg n
    refine main h (fun b => ?_) (.inl (.inr ⟨_, hl⟩)) (fun b u z => ?_) (fun b z => Classical.byContradiction fun n => z (ho b n)) fun _ => hk'
    · by_cases n : b = l
      · subst n; exact .inr ⟨_, _, hl⟩
      · exact .inl (ho b n)
    · by_cases n : b = l
      · subst n
        rw [hl] at z
        cases z
        exact ⟨stands, by rw [List.length_map]; exact small, raw, _, rel, stands⟩
      · rw [ho b n] at z
        cases z
theorem walk_at {l : PySem.W.OpenLaw} {most lv : Nat} {q : Program} {loose : List Str} {XP : (Str → Option Value) → Heap → Prop} {YP : World → Heap → Prop} {d : DefRec} {Kp : Params → PySem.W.Frag} {prom : World → Sp} {nm : Str}
    (hm : l.most = some most) (hs : most ≤ sizeLine) (hd : d.params.defaults = []) (kin : ∀ (wo : World) (h : Heap), YP wo h → (Kp wo.params).In h)
    (FF : ∀ (wo : World) (gm : Str → Option Value) (fa : Addr) (h : Heap), (Kp wo.params).In h → h.Ns mainGlobals gm → gm d.name = some (.ref fa) →
      ∃ code : FuncData, (∀ (s : Shared) (u : Value), BindsTo s code ⟨[u], []⟩ [(nm, u)]) ∧ ∀ bs : Heap, (Kp wo.params).In bs → bs.Ns mainGlobals gm → LawFn l.prog wo (Kp wo.params) gm bs lv fa code [nm] (prom wo))
    (says : ∀ (wo : World) (h : Hp) (a : Addr) (ns : List Int), ns.length ≤ most → Only h → SqL (Kp wo.params) h a (ns.map V.int) → prom wo [.ref a] h (fun v _ => v = .bl true) fun _ _ _ => False) :
    PySem.W.WalkO q loose XP YP l.row.toRowW d [] (fun f vs => PySem.call f vs) := by
  refine Att.attach_call hm hd fun wo s0 st gm gb fa o pm cd doc a raw ns G Y ho hdat hcd hgm hobj allInt hlen still => ?_
  obtain ⟨code, bd, fn⟩ := FF wo gm fa _ (kin wo _ Y) G.T.g hgm
  exact law_goes (kin wo _ Y) G.T.g G.T.b G.T.builtins G.T.nolimit still hobj allInt (Nat.le_trans hlen hs) fn bd fun h only seq => says wo h a ns hlen only seq
end AtL
namespace Un
section
end
end Un
namespace Un
open PySem L2 TL
section
variable {P : Program} {w : World} {K : PySem.W.Frag} {mg : Str → Option Value} {base : Heap}
/-! ### the sizes in the law -/
theorem trim_len_le {p : SerM.Po} {n : Nat} (h : ∀ i, n ≤ i → SerM.co p i = 0) : (SerM.trim p).length ≤ n := by
  by_cases ne : SerM.trim p = []
  · rw [ne]; exact Nat.zero_le _
  · have l := SerM.tm_lead (SerM.trim_tm p) ne
    have h0 : 0 < (SerM.trim p).length := List.length_pos_iff.mpr ne
    refine Nat.le_of_not_lt fun lt => l.ne ?_
    rw [← l.at_, SerM.trim_co]
    exact h _ (by omega)
/-- a top and a bottom as the law draws them -/
structure Drawn (p q : SerM.Po) : Prop where
  pl : p.length ≤ 4
  ql : q.length ≤ 4
  pc : ∀ i, (SerM.co p i).natAbs ≤ 9
  qc : ∀ i, (SerM.co q i).natAbs ≤ 9
  q1 : SerM.ev q 0 = 1
theorem lt_pow {p : SerM.Po} {A c : Nat} (h : ∀ i, (SerM.co p i).natAbs ≤ A) (hA : A < 2 ^ c) : ∀ i, (SerM.co p i).natAbs < 2 ^ c := fun i => Nat.lt_of_le_of_lt (h i) hA
theorem Drawn.sml {p q : SerM.Po} (D : Drawn p q) : SerM.Sml p q p q 9 4 9 4 330 :=
  ⟨D.q1, D.q1, fun x => rfl, D.pl, D.ql, D.pc, D.qc, D.ql, D.qc, by decide +kernel⟩
theorem Drawn.inn {p q : SerM.Po} (D : Drawn p q) : RedIn p q 4 :=
  ⟨by have := D.pl; omega, by have := D.ql; omega, lt_pow D.pc (by decide), lt_pow D.qc (by decide), by decide, p, q, 9, 4, 9, 4, 330, D.sml, by decide⟩
structure Fact (F : SerM.Po) : Prop where
  fl : F.length ≤ 3
  fc : ∀ i, (SerM.co F i).natAbs ≤ 4
  f1 : SerM.ev F 0 = 1
theorem mul_len {p F : SerM.Po} (hp : p.length ≤ 4) (hF : F.length ≤ 3) : (SerM.trim (SerM.mul p F)).length ≤ 6 := trim_len_le fun i hi => SerM.mul_len0 _ _ _ (by omega)
theorem mul_co {p F : SerM.Po} (hp : p.length ≤ 4) (hc : ∀ i, (SerM.co p i).natAbs ≤ 9) (hF : ∀ i, (SerM.co F i).natAbs ≤ 4) (i : Nat) : (SerM.co (SerM.trim (SerM.mul p F)) i).natAbs ≤ 144 := by
  rw [SerM.trim_co]
  have h1 := SerM.mul_bd (P := 9) (Q := 4) hF p hc i
  have h2 := Nat.mul_le_mul_right 36 hp
  omega
theorem Drawn.wide {p q F : SerM.Po} (D : Drawn p q) (G : Fact F) {j k : Nat} (hj : j ≤ 2) (hk : k ≤ 2) :
    RedIn (SerM.trim (SerM.mul p F) ++ List.replicate j 0) (SerM.trim (SerM.mul q F) ++ List.replicate k 0) 8 ∧ (∀ x, SerM.ev (SerM.trim (SerM.mul p F) ++ List.replicate j 0) x * SerM.ev q x = SerM.ev p x * SerM.ev (SerM.trim (SerM.mul q F) ++ List.replicate k 0) x) ∧ SerM.ev (SerM.trim (SerM.mul q F) ++ List.replicate k 0) 0 = 1 := by
  have l1 := mul_len D.pl G.fl
  have l2 := mul_len D.ql G.fl
  have c1 := mul_co D.pl D.pc G.fc
  have c2 := mul_co D.ql D.qc G.fc
  have ev0 : ∀ (r : SerM.Po) (n : Nat) (x : Int), SerM.ev (r ++ List.replicate n 0) x = SerM.ev r x := fun r n x => SerM.ev_of_co (co_rep r n) x
  have b1 : SerM.ev (SerM.trim (SerM.mul q F) ++ List.replicate k 0) 0 = 1 := by rw [ev0, SerM.trim_ev, SerM.ev_mul, D.q1, G.f1]; rfl
  have same : ∀ x, SerM.ev (SerM.trim (SerM.mul p F) ++ List.replicate j 0) x * SerM.ev q x = SerM.ev p x * SerM.ev (SerM.trim (SerM.mul q F) ++ List.replicate k 0) x := fun x => by
    rw [ev0, ev0, SerM.trim_ev, SerM.trim_ev, SerM.ev_mul, SerM.ev_mul]; grind
  refine ⟨⟨by rw [List.length_append, List.length_replicate]; omega, by rw [List.length_append, List.length_replicate]; omega, fun i => by rw [co_rep]; exact Nat.lt_of_le_of_lt (c1 i) (by decide), fun i => by rw [co_rep]; exact Nat.lt_of_le_of_lt (c2 i) (by decide), by decide, p, q, 9, 4, 144, 8, 400, ?_, by decide⟩, same, b1⟩
  exact ⟨b1, D.q1, same, D.pl, D.ql, D.pc, D.qc, by rw [List.length_append, List.length_replicate]; omega, fun i => by rw [co_rep]; exact c2 i, by decide +kernel⟩
/-- the reduced form of what is drawn is small -/
structure RedS (u v : SerM.Po) : Prop where
  ul : u.length ≤ 4
  vl : v.length ≤ 4
  v1 : 1 ≤ v.length
  uc : ∀ i, (SerM.co u i).natAbs < 2 ^ 29
  vc : ∀ i, (SerM.co v i).natAbs < 2 ^ 29
theorem Drawn.redS {p q u v : SerM.Po} (D : Drawn p q) (R : SerM.Red p q u v) : RedS u v := by
  obtain ⟨h1, h2, h3, h4⟩ := SerM.red_small (A := 9) (m := 4) D.q1 R D.pl D.ql D.pc D.qc
  have hb : SerM.fb 9 4 < 2 ^ 29 := by decide +kernel
  refine ⟨h1, h2, Nat.pos_of_ne_zero fun z => ?_, fun i => Nat.lt_of_le_of_lt (h3 i) hb, fun i => Nat.lt_of_le_of_lt (h4 i) hb⟩
  have := R.v1
  rw [List.length_eq_zero_iff.mp z] at this
  exact absurd this (by decide)
theorem Drawn.so {p q u v : SerM.Po} (D : Drawn p q) (R : SerM.Red p q u v) : SoIn p q u v 4 29 := by
  have S := D.redS R
  refine ⟨R, by have := D.pl; omega, by have := D.ql; omega, by have := S.ul; omega, by have := S.vl; omega, lt_pow D.pc (by decide), lt_pow D.qc (by decide), S.uc, S.vc, by decide, by decide, ?_⟩
  have h1 : 2 ^ (u.length + v.length) ≤ 2 ^ 8 := Nat.pow_le_pow_right (by decide) (by have := S.ul; have := S.vl; omega)
  have h2 := Nat.mul_le_mul_left (29 + 1) h1
  exact Nat.le_trans h2 (by decide)
theorem RedS.small {u v : SerM.Po} (S : RedS u v) : SmallP u ∧ SmallP v :=
  ⟨⟨by have := S.ul; omega, fun i => Nat.lt_of_lt_of_le (S.uc i) (by decide +kernel)⟩, ⟨by have := S.vl; omega, fun i => Nat.lt_of_lt_of_le (S.vc i) (by decide +kernel)⟩⟩
/-- the same first coefficient that is not 0 -/
theorem low_zero {u q p v : SerM.Po} (q1 : SerM.ev q 0 = 1) (e : ∀ x, SerM.ev u x * SerM.ev q x = SerM.ev p x * SerM.ev v x) {k : Nat} (h : ∀ i, i < k → SerM.co p i = 0) : ∀ i, i < k → SerM.co u i = 0 := by
  intro i
  induction i using Nat.strongRecOn with
  | ind i ih =>
    intro hi
    have h1 : SerM.co (SerM.mul u q) i = SerM.co (SerM.mul p v) i := SerM.co_of_ev 0 (fun x _ => by rw [SerM.ev_mul, SerM.ev_mul]; exact e x) i
    rw [SerM.co_mul, SerM.co_mul] at h1
    rw [SerM.S_zero (f := fun l => SerM.co p l * SerM.co v (i - l)) fun j hj => by rw [h j (by omega)]; omega] at h1
    have h2 : SerM.S i (fun l => SerM.co u l * SerM.co q (i - l)) = 0 := SerM.S_zero fun j hj => by rw [ih j hj (by omega)]; omega
    have h3 : SerM.S i (fun l => SerM.co u l * SerM.co q (i - l)) + SerM.co u i * SerM.co q (i - i) = 0 := h1
    rw [h2, Nat.sub_self, SerM.co0_ev, q1] at h3
    omega
theorem ord_eq {u q p v : SerM.Po} {z y : V} (q1 : SerM.ev q 0 = 1) (v1 : SerM.ev v 0 = 1) (e : ∀ x, SerM.ev u x * SerM.ev q x = SerM.ev p x * SerM.ev v x) (hz : OrdV u z) (hy : OrdV p y) : z = y := by
  have a : ∀ {k : Nat}, (∀ i, i < k → SerM.co p i = 0) → ∀ i, i < k → SerM.co u i = 0 := fun h => low_zero q1 e h
  have b : ∀ {k : Nat}, (∀ i, i < k → SerM.co u i = 0) → ∀ i, i < k → SerM.co p i = 0 := fun h => low_zero v1 (fun x => (e x).symm) h
  rcases hz with ⟨k, k1, k2, k3, rfl⟩ | ⟨k0, rfl⟩ <;> rcases hy with ⟨j, j1, j2, j3, rfl⟩ | ⟨j0, rfl⟩
  · rcases Nat.lt_trichotomy k j with h | h | h
    · exact absurd (a j3 k h) k2
    · rw [h]
    · exact absurd (b k3 j h) j2
  · exact absurd (a (k := k + 1) (fun i _ => j0 i) k (by omega)) k2
  · exact absurd (b (k := j + 1) (fun i _ => k0 i) j (by omega)) j2
  · rfl
theorem empty_eq {p q u v : SerM.Po} (q1 : SerM.ev q 0 = 1) (R : SerM.Red p q u v) : (!u.isEmpty) = (!decide (SerM.trim p = [])) := by
  by_cases h : SerM.trim p = []
  · rw [decide_eq_true h]
    obtain ⟨rfl, _⟩ := SerM.red_uniq q1 R (SerM.red_nil h)
    rfl
  · rw [decide_eq_false h]
    have : u ≠ [] := fun z => by
      subst z
      obtain ⟨i, hi⟩ := SerM.nz_of (SerM.trim_tm p) h
      rw [SerM.trim_co] at hi
      exact hi (low_zero (k := i + 1) R.v1 (fun x => (R.eq x).symm) (fun i _ => SerM.co_nil i) i (by omega))
    cases u with
    | nil => exact absurd rfl this
    | cons a r => rfl
/-- a top with one coefficient more by one -/
def bump (p : SerM.Po) (k : Nat) : SerM.Po := SerM.trim (SerM.add p (SerM.smul 1 (List.replicate k 0 ++ [1])))
theorem co_bump0 (k i : Nat) : SerM.co (List.replicate k 0 ++ [1]) i = if i = k then 1 else 0 := by
  rw [co_snoc, List.length_replicate]
  split
  · rename_i h
    rw [if_neg (by omega)]
    unfold SerM.co
    rw [List.getD_eq_getElem?_getD, List.getElem?_replicate, if_pos h]; rfl
  · rfl
theorem co_bump (p : SerM.Po) (k i : Nat) : SerM.co (bump p k) i = SerM.co p i + if i = k then 1 else 0 := by
  unfold bump
  rw [SerM.trim_co, SerM.co_add, SerM.co_smul, co_bump0]; omega
theorem Drawn.bump {p q : SerM.Po} (D : Drawn p q) {k : Nat} (hk : k ≤ 11) : RedIn (bump p k) q 4 := by
  have l : (Un.bump p k).length ≤ 12 := trim_len_le fun i hi => by
    rw [SerM.co_add, SerM.co_smul, co_bump0, if_neg (by omega), SerM.co_len (by have := D.pl; omega)]; omega
  have c : ∀ i, (SerM.co (Un.bump p k) i).natAbs ≤ 10 := fun i => by
    rw [co_bump]
    have := D.pc i
    split <;> omega
  refine ⟨by omega, by have := D.ql; omega, lt_pow c (by decide), lt_pow D.qc (by decide), by decide, Un.bump p k, q, 10, 12, 9, 4, 2970, ?_, by decide⟩
  exact ⟨D.q1, D.q1, fun x => rfl, l, by have := D.ql; omega, c, fun i => Nat.le_trans (D.qc i) (by decide), D.ql, D.qc, by decide +kernel⟩
theorem bump_ne {p q u v u' v' : SerM.Po} {k : Nat} (q1 : SerM.ev q 0 = 1) (R : SerM.Red p q u v) (R' : SerM.Red (bump p k) q u' v') : (decide (u = u') && decide (v = v')) = false := by
  by_cases h : u = u' ∧ v = v'
  · obtain ⟨rfl, rfl⟩ := h
    exfalso
    have : ∀ x, SerM.ev p x = SerM.ev (bump p k) x := SerM.ev_cancel (SerM.nz_of1 R.v1) fun x => by
      have h1 := R.eq x
      have h2 := R'.eq x
      grind
    have h3 := SerM.co_of_ev 0 (fun x _ => this x) k
    rw [co_bump, if_pos rfl] at h3
    omega
  · by_cases a : u = u'
    · rw [decide_eq_false (p := v = v') fun b => h ⟨a, b⟩, Bool.and_false]
    · rw [decide_eq_false (p := u = u') a, Bool.false_and]
/-- the first numbers are the same -/
theorem qt_take (p q : SerM.Po) (n : Nat) : ∀ k, (SerM.qt p q (n + k)).take n = SerM.qt p q n
  | 0 => by
    have := SerM.qt_len p q n
    rw [Nat.add_zero, List.take_of_length_le (by omega)]
  | k + 1 => by
    show (SerM.qt p q (n + k) ++ [_]).take n = _
    rw [List.take_append_of_le_length (by rw [SerM.qt_len]; omega)]
    exact qt_take p q n k
end
end Un
namespace Un
open PySem L2 TL
section
variable {P : Program} {w : World} {K : PySem.W.Frag} {mg : Str → Option Value} {base : Heap}
end
end Un
/-! ### an own class under + - * << >> and unary - -/
namespace BinO
open PySem PySem.Spec PyProof.Rows L2
section
variable {prog : Program} {w : World} {A : Around} {E : Value → Shared → Prop} {s : Shared} {K : PySem.W.Frag} {C f g : Addr} {cd : ClassData} {nm : String}
/-- the class's own methods for an operator -/
structure Has (K : PySem.W.Frag) (C : Addr) (nm : String) (f : Addr) : Prop where
  mro : ∃ cd, PySem.W.clsIn K C = some cd ∧ cd.mro = [.ref C, .type "object"]
  at_ : PySem.W.findIn K (.ref C) (dunder nm) = some (some (.ref f))
  fn : PySem.W.isFn K (.ref f) = true
theorem mro_here {Q : List Value → Shared → Prop} (X : K.In s.heap) (h : ∃ cd, PySem.W.clsIn K C = some cd ∧ cd.mro = [.ref C, .type "object"]) (q : Q [.ref C, .type "object"] s) : wpAny (model prog w) A (mroOf (.ref C)) Q E s := by
  obtain ⟨cd, hc, hm⟩ := h
  show wpAny _ _ (classData C >>= fun d => pure d.mro) _ _ _
  refine wpAny_bind ((PySem.W.looks_clsIn X hc).here (wpAny_pure ?_))
  rw [hm]; exact q
theorem fills_own {Q : Bool → Shared → Prop} (X : K.In s.heap) (h : Has K C nm f) (q : Q true s) : wpAny (model prog w) A (fillsNumberSlot (.ref C) nm) Q E s := by
  unfold fillsNumberSlot
  simp only []
  refine wpAny_bind (mro_here X h.mro ?_)
  simp only [List.anyM]
  refine wpAny_bind (wpAny_bind (wpAny_bind ((PySem.W.looks_findIn X h.at_).here ?_)))
  exact wpAny_pure (wpAny_pure (wpAny_pure q))
/-- what a method gave: not NotImplemented -/
def Told (Q : Value → Shared → Prop) (v : Value) (s' : Shared) : Prop := v ≠ .notImplemented ∧ Q v s'
theorem try_own {x : Addr} {ox : Obj} {od : Option Obj} {o : Value} {Q : Value → Shared → Prop} (X : K.In s.heap) (I : PySem.W.InstAt s.heap x ox C od) (m : Str) (hat : PySem.W.findIn K (.ref C) m = some (some (.ref f))) (hf : PySem.W.isFn K (.ref f) = true)
    (h : wpAny (model prog w) A (call (.ref f) [.ref x, o]) (Told Q) E s) : wpAny (model prog w) A (tryMethod (.ref x) m o) (fun r s' => ∃ v, r = some v ∧ Q v s') E s := by
  unfold tryMethod
  refine wpAny_bind (PySem.W.special_fn X I hat (beq_iff_eq.mp hf) (wpAny_mono h (fun v s' hv => ?_) fun _ _ z => z))
  obtain ⟨n, q⟩ := hv
  cases v <;> first | exact absurd rfl n | exact wpAny_pure ⟨_, rfl, q⟩
/-- two instances of the class -/
theorem bin1_same {x y : Addr} {ox oy : Obj} {od oe : Option Obj} {Q : Value → Shared → Prop} (X : K.In s.heap) (I : PySem.W.InstAt s.heap x ox C od) (J : PySem.W.InstAt s.heap y oy C oe) (h : Has K C nm f)
    (q : wpAny (model prog w) A (call (.ref f) [.ref x, .ref y]) (Told Q) E s) : wpAny (model prog w) A (binaryOp1 nm (.ref x) (.ref y)) (fun r s' => ∃ v, r = some v ∧ Q v s') E s := by
  unfold binaryOp1
  simp only []
  refine wpAny_bind (I.type.here (wpAny_bind (J.type.here (wpAny_bind (fills_own X h ?_)))))
  have e : (Value.ref C == Value.ref C) = true := by simp
  simp only [e, if_true, Bool.and_false, Bool.false_eq_true, if_false, Bool.false_and, pure_bind]
  refine wpAny_bind (wpAny_mono (try_own X I _ h.at_ h.fn q) (fun r s' hr => ?_) fun _ _ z => z)
  obtain ⟨v, rfl, hq⟩ := hr
  exact wpAny_pure ⟨v, rfl, hq⟩
/-- the reflected method, as the class has it or not -/
def HasR (K : PySem.W.Frag) (C : Addr) (nm : String) : Prop := ∃ r, PySem.W.findIn K (.ref C) (dunderR nm) = some r ∧ (r = none ∨ ∃ g, r = some (.ref g))
theorem slot_own {Q : Bool → Shared → Prop} (X : K.In s.heap) (h : Has K C nm f) (hR : HasR K C nm) (q : Q true s) : wpAny (model prog w) A (numberSlotInPython (.ref C) nm) Q E s := by
  obtain ⟨r, hr, hc⟩ := hR
  unfold numberSlotInPython
  simp only []
  refine wpAny_bind ((PySem.W.looks_findIn X h.at_).here (wpAny_bind (wpAny_pure (wpAny_bind ((PySem.W.looks_findIn X hr).here ?_)))))
  rcases hc with rfl | ⟨g, rfl⟩
  · exact wpAny_bind (wpAny_pure (wpAny_pure q))
  · exact wpAny_bind (wpAny_pure (wpAny_pure q))
/-- an instance, then a whole number -/
theorem bin1_int {x : Addr} {ox : Obj} {od : Option Obj} {i : Int} {t : Tok} {ri : Option Value} {Q : Value → Shared → Prop} (X : K.In s.heap) (I : PySem.W.InstAt s.heap x ox C od) (h : Has K C nm f) (hR : HasR K C nm) (fi : fillsNumberSlot (.type "int") nm = pure true) (li : PySem.W.findIn K (.type "int") (dunderR nm) = some ri)
    (q : wpAny (model prog w) A (call (.ref f) [.ref x, .int i t]) (Told Q) E s) : wpAny (model prog w) A (binaryOp1 nm (.ref x) (.int i t)) (fun r s' => ∃ v, r = some v ∧ Q v s') E s := by
  unfold binaryOp1
  simp only []
  refine wpAny_bind (I.type.here ?_)
  refine wpAny_bind (m := typeOf (.int i t)) (wpAny_pure ?_)
  refine wpAny_bind (fills_own X h ?_)
  have e : (Value.ref C == Value.type "int") = false := by simp
  simp only [e, Bool.false_eq_true, if_false, fi]
  refine wpAny_bind (wpAny_pure ?_)
  simp only [Bool.and_self, if_true]
  refine wpAny_bind ((PySem.W.looks_subIn X (OwnX.sub_int (C := C))).here ?_)
  simp only [Bool.false_eq_true, if_false, Bool.not_false, Bool.and_true, Bool.and_self, if_true]
  refine wpAny_bind (slot_own X h hR ?_)
  have e2 : numberSlotInPython (.type "int") nm = pure false := rfl
  simp only [if_true, e2]
  refine wpAny_bind (wpAny_pure ?_)
  simp only [Bool.not_false, if_true]
  refine wpAny_bind ((PySem.W.looks_findIn X li).here ?_)
  refine wpAny_bind (wpAny_mono (try_own X I _ h.at_ h.fn q) (fun r s' hr => ?_) fun _ _ z => z)
  obtain ⟨v, rfl, hq⟩ := hr
  exact wpAny_pure ⟨v, rfl, hq⟩
/-- what a whole number's own method says of an instance -/
def IntNo (prog : Program) (w : World) (id : String) : Prop := ∀ (A : Around) (E : Value → Shared → Prop) (s : Shared) (i : Int) (t : Tok) (y : Addr) (oy : Obj) (Q : Value → Shared → Prop), s.heap.get? y = some oy → oy.data = .plain → Q .notImplemented s → wpAny (model prog w) A (call (.builtin id) [.int i t, .ref y]) Q E s
theorem int_no {nmS : String} {f1 : Int → Int → Sem Fin} {s : Shared} {i : Int} {t : Tok} {y : Addr} {oy : Obj} {Q : Fin → Shared → Prop} (h1 : s.heap.get? y = some oy) (h2 : oy.data = .plain) (hs : slotArgs nmS 1 ⟨[.int i t, .ref y], []⟩ = pure (.int i t, [.ref y])) (q : Q (.done (.ret .notImplemented)) s) :
    wpAny (model prog w) A (Builtin.Int.intBinary nmS f1 false ⟨[.int i t, .ref y], []⟩) Q E s := by
  unfold Builtin.Int.intBinary
  rw [hs]
  refine wpAny_bind (wpAny_pure ?_)
  refine wpAny_bind (m := Builtin.Int.intOfSelf (.int i t)) (wpAny_pure ?_)
  show wpAny _ _ (asInt? (.ref y) >>= _) _ _ _
  refine wpAny_bind (m := asInt? (.ref y)) (wpAny_bind (wpAny_load h1 ?_))
  rw [h2]
  refine wpAny_pure ?_
  refine wpAny_bind (wpAny_rule ?_)
  exact wpAny_pure q
theorem no_add : IntNo prog w "int.__add__" := fun A E s i t y oy Q h1 h2 q =>
  wpAny_call (codeAny_call_builtin F.slot_int_add.plain F.entry_int_add (F.slot_int_add.check _ _ _ _ _ _ _ _ (typeIs_int s i t) (F.args_int_add_2 _ _) (int_no h1 h2 rfl q)))
theorem no_sub : IntNo prog w "int.__sub__" := fun A E s i t y oy Q h1 h2 q =>
  wpAny_call (codeAny_call_builtin F.slot_int_sub.plain F.entry_int_sub (F.slot_int_sub.check _ _ _ _ _ _ _ _ (typeIs_int s i t) (F.args_int_sub_2 _ _) (int_no h1 h2 rfl q)))
theorem no_mul : IntNo prog w "int.__mul__" := fun A E s i t y oy Q h1 h2 q =>
  wpAny_call (codeAny_call_builtin F.slot_int_mul.plain F.entry_int_mul (F.slot_int_mul.check _ _ _ _ _ _ _ _ (typeIs_int s i t) (F.args_int_mul_2 _ _) (int_no h1 h2 rfl q)))
/-- a whole number, then an instance -/
theorem bin1_rint {y : Addr} {oy : Obj} {oe : Option Obj} {i : Int} {t : Tok} {id : String} {Q : Value → Shared → Prop} (X : K.In s.heap) (J : PySem.W.InstAt s.heap y oy C oe) (hpl : oy.data = .plain) (h : Has K C nm f) (hg : PySem.W.findIn K (.ref C) (dunderR nm) = some (some (.ref g))) (hgf : PySem.W.isFn K (.ref g) = true)
    (fi : fillsNumberSlot (.type "int") nm = pure true) (hsub : PySem.W.mroIn K C (.type "int") = some false) (S : Slot "int" (dunder nm) id) (no : IntNo prog w id)
    (q : wpAny (model prog w) A (call (.ref g) [.ref y, .int i t]) (Told Q) E s) : wpAny (model prog w) A (binaryOp1 nm (.int i t) (.ref y)) (fun r s' => ∃ v, r = some v ∧ Q v s') E s := by
  unfold binaryOp1
  simp only []
  refine wpAny_bind (m := typeOf (.int i t)) (wpAny_pure ?_)
  refine wpAny_bind (J.type.here ?_)
  have e : (Value.type "int" == Value.ref C) = false := by simp
  simp only [e, Bool.false_eq_true, if_false, fi]
  refine wpAny_bind (wpAny_pure ?_)
  refine wpAny_bind (fills_own X h ?_)
  simp only [Bool.and_self, if_true]
  refine wpAny_bind ((PySem.W.looks_mroIn X hsub).here ?_)
  have e2 : numberSlotInPython (.type "int") nm = pure false := rfl
  simp only [Bool.false_eq_true, if_false, Bool.not_false, Bool.and_true, Bool.and_self, if_true, e2]
  refine wpAny_bind (wpAny_pure ?_)
  simp only [Bool.false_eq_true, if_false]
  have none1 : ∀ {R : Option Value → Shared → Prop}, R none s → wpAny (model prog w) A (tryMethod (.int i t) (dunder nm) (.ref y)) R E s := fun {R} r => by
    unfold tryMethod
    obtain ⟨ox, hox⟩ : ∃ o, s.heap.get? y = some o ∧ o.data = .plain := ⟨oy, J.at_, hpl⟩
    exact wpAny_bind (wpAny_callSpecial?_slot (name := dunder nm) (typeIs_int s i t) S (no _ _ _ i t y ox _ hox.1 hox.2 (wpAny_pure r)))
  refine wpAny_bind (none1 ?_)
  refine wpAny_bind (wpAny_mono (try_own X J _ hg hgf q) (fun r s' hr => ?_) fun _ _ z => z)
  obtain ⟨v, rfl, hq⟩ := hr
  exact wpAny_bind (wpAny_rule (wpAny_pure ⟨v, rfl, hq⟩))
theorem op_of1 {op : Operator} {a b : Value} {Q : Value → Shared → Prop} (h : wpAny (model prog w) A (binaryOp1 op.info.2 a b) (fun r s' => ∃ v, r = some v ∧ Q v s') E s) : wpAny (model prog w) A (binaryOp op a b) Q E s := by
  unfold binaryOp
  refine wpAny_holding ?_
  refine wpAny_bind (wpAny_mono h (fun r s' hr => ?_) fun _ _ z => z)
  obtain ⟨v, rfl, hq⟩ := hr
  exact wpAny_pure hq
theorem neg_of {y : Addr} {oy : Obj} {oe : Option Obj} {Q : Value → Shared → Prop} (X : K.In s.heap) (J : PySem.W.InstAt s.heap y oy C oe) (hat : PySem.W.findIn K (.ref C) "__neg__" = some (some (.ref f))) (hf : PySem.W.isFn K (.ref f) = true)
    (h : wpAny (model prog w) A (call (.ref f) [.ref y]) Q E s) : wpAny (model prog w) A (unaryOp .USub (.ref y)) Q E s := by
  unfold unaryOp
  refine wpAny_holding ?_
  refine wpAny_bind (m := callSpecial? (.ref y) "__neg__") (PySem.W.special_fn X J hat (beq_iff_eq.mp hf) (wpAny_mono h (fun r s' hr => ?_) fun _ _ z => z))
  exact wpAny_pure hr
end
section
variable {X : Cx} {k k2 : Nat} {C f g : Addr} {fd gd : FuncData} {ps qs : List Str} {sp rp : Sp} {op : Operator} {m : Str}
theorem rel_told {v : V} {u : Value} (r : RelV v u) : u ≠ .notImplemented := by
  cases v
  all_goals first
    | (obtain ⟨t, rfl⟩ := r; exact fun z => nomatch z)
    | (have r' := r; rintro rfl; cases r')
/-- the class's mro and what int has, for an operator -/
structure OpK (K : PySem.W.Frag) (C : Addr) (nm : String) (m : Str) : Prop where
  mro : ∃ cd, PySem.W.clsIn K C = some cd ∧ cd.mro = [.ref C, .type "object"]
  eqm : m = dunder nm
  refl : HasR K C nm
  fi : fillsNumberSlot (.type "int") nm = pure true
  li : ∃ ri, PySem.W.findIn K (.type "int") (dunderR nm) = some ri
/-- of two instances, of an instance and a whole number -/
theorem op_bin (M : OwnX.OMt X.prog X.w X.K X.mg X.base C k f fd m ps sp) (O : OpK X.K C op.info.2 m) (hr : Room k X.A) : OpR X (binaryOp op) (fun x y H Q => (∃ a b dx fs dy gs, x = .ref a ∧ y = .ref b ∧ H a = some (.ins C dx fs) ∧ H b = some (.ins C dy gs) ∧ sp [.ref a, .ref b] H Q E0) ∨ ∃ a dx fs i, x = .ref a ∧ y = .int i ∧ H a = some (.ins C dx fs) ∧ sp [.ref a, .int i] H Q E0) := by
  intro pins s σ H x y v u Q I rx ry h
  have hs : Has X.K C op.info.2 f := ⟨O.mro, by rw [← O.eqm]; exact M.mt.at_, M.mt.fn⟩
  have X' : X.K.In s.heap := I.kIn
  rcases h with ⟨a, b, dx, fs, dy, gs, rfl, rfl, ea, eb, q⟩ | ⟨a, dx, fs, i, rfl, rfl, ea, q⟩
  · obtain ⟨ox, od, J, _⟩ := StX.insC_at I (.inr ⟨dx, fs, ea⟩)
    obtain ⟨oy, oe, J2, _⟩ := StX.insC_at I (.inr ⟨dy, gs, eb⟩)
    cases rx
    cases ry
    refine op_of1 (bin1_same X' J J2 hs ?_)
    refine wpAny_mono (OwnX.run_own (pins := pins) (σ := σ) (A := X.A) M (vs := [.ref a, .ref b]) (us := [.ref a, .ref b]) rfl hr I (.cons rfl (.cons rfl .nil)) q) (fun r s' hu => ?_) fun e s' he => he
    obtain ⟨z, H', I', rv, q'⟩ := hu
    exact ⟨rel_told rv, z, H', I', rv, q'⟩
  · obtain ⟨ox, od, J, _⟩ := StX.insC_at I (.inr ⟨dx, fs, ea⟩)
    cases rx
    have ry' := ry
    obtain ⟨t, rfl⟩ := ry'
    obtain ⟨ri, li⟩ := O.li
    refine op_of1 (bin1_int X' J hs O.refl O.fi li ?_)
    refine wpAny_mono (OwnX.run_own (pins := pins) (σ := σ) (A := X.A) M (vs := [.ref a, .int i]) (us := [.ref a, .int i t]) rfl hr I (.cons rfl (.cons ry .nil)) q) (fun r s' hu => ?_) fun e s' he => he
    obtain ⟨z, H', I', rv, q'⟩ := hu
    exact ⟨rel_told rv, z, H', I', rv, q'⟩
/-- of a whole number and an instance -/
theorem op_rbin {id : String} {m2 : Str} (M : OwnX.OMt X.prog X.w X.K X.mg X.base C k f fd m ps sp) (M2 : OwnX.OMt X.prog X.w X.K X.mg X.base C k2 g gd m2 qs rp) (O : OpK X.K C op.info.2 m) (e2 : m2 = dunderR op.info.2) (hsub : PySem.W.mroIn X.K C (.type "int") = some false) (S : Slot "int" (dunder op.info.2) id) (no : ∀ {prog : Program} {w : World}, IntNo prog w id) (hr : Room k2 X.A) :
    OpR X (binaryOp op) (fun x y H Q => ∃ i b dy gs, x = .int i ∧ y = .ref b ∧ H b = some (.ins C dy gs) ∧ rp [.ref b, .int i] H Q E0) := by
  intro pins s σ H x y v u Q I rx ry h
  have hs : Has X.K C op.info.2 f := ⟨O.mro, by rw [← O.eqm]; exact M.mt.at_, M.mt.fn⟩
  have X' : X.K.In s.heap := I.kIn
  obtain ⟨i, b, dy, gs, rfl, rfl, eb, q⟩ := h
  obtain ⟨oy, oe, J, hpl⟩ := StX.insC_at I (.inr ⟨dy, gs, eb⟩)
  cases ry
  have rx' := rx
  obtain ⟨t, rfl⟩ := rx'
  refine op_of1 (bin1_rint X' J hpl hs (by rw [← e2]; exact M2.mt.at_) M2.mt.fn O.fi hsub S no ?_)
  refine wpAny_mono (OwnX.run_own (pins := pins) (σ := σ) (A := X.A) M2 (vs := [.ref b, .int i]) (us := [.ref b, .int i t]) rfl hr I (.cons rfl (.cons rx .nil)) q) (fun r s' hu => ?_) fun e s' he => he
  obtain ⟨z, H', I', rv, q'⟩ := hu
  exact ⟨rel_told rv, z, H', I', rv, q'⟩
theorem un_negO (M : OwnX.OMt X.prog X.w X.K X.mg X.base C k f fd "__neg__" ps sp) (hr : Room k X.A) : UnR X (unaryOp .USub) (fun x H Q => ∃ a dx fs, x = .ref a ∧ H a = some (.ins C dx fs) ∧ sp [.ref a] H Q E0) := by
  intro pins s σ H x v Q I rx h
  obtain ⟨a, dx, fs, rfl, ea, q⟩ := h
  obtain ⟨ox, od, J, _⟩ := StX.insC_at I (.inr ⟨dx, fs, ea⟩)
  cases rx
  refine neg_of I.kIn J M.mt.at_ M.mt.fn ?_
  exact OwnX.run_own (pins := pins) (σ := σ) (A := X.A) M (vs := [.ref a]) (us := [.ref a]) rfl hr I (.cons rfl .nil) q
end
end BinO
namespace Un
section
end
end Un
namespace Un
open PySem L2 TL
section
variable {P : Program} {w : World} {K : PySem.W.Frag} {mg : Str → Option Value} {base : Heap}
/-! ### series: sizes, values -/
theorem trim_len_le2 {p : SerM.Po} {n : Nat} (h : ∀ i, n ≤ i → SerM.co p i = 0) : (SerM.trim p).length ≤ n := trim_len_le h
structure Sz where
  m : Nat
  A : Nat
structure Frac (p q : SerM.Po) (z : Sz) : Prop where
  pl : p.length ≤ z.m
  ql : q.length ≤ z.m
  pc : ∀ i, (SerM.co p i).natAbs ≤ z.A
  qc : ∀ i, (SerM.co q i).natAbs ≤ z.A
  q1 : SerM.ev q 0 = 1
structure FitN (z : Sz) (m2 A2 : Nat) : Prop where
  m : m2 ≤ 90
  A : A2 < 2 ^ 8900
  b : SerM.rb2 z.A z.m * SerM.fb A2 m2 < 2 ^ 4489
theorem Frac.inn {P Q p q : SerM.Po} {z : Sz} {m2 A2 : Nat} (F : Frac P Q z) (N : FitN z m2 A2) (pl : p.length ≤ m2) (ql : q.length ≤ m2) (pc : ∀ i, (SerM.co p i).natAbs ≤ A2) (qc : ∀ i, (SerM.co q i).natAbs ≤ A2) (q1 : SerM.ev q 0 = 1) (same : ∀ x, SerM.ev p x * SerM.ev Q x = SerM.ev P x * SerM.ev q x) : RedIn p q 8900 :=
  ⟨Nat.le_trans pl N.m, Nat.le_trans ql N.m, lt_pow pc N.A, lt_pow qc N.A, Nat.le_refl _, P, Q, z.A, z.m, A2, m2, 4490, ⟨q1, F.q1, same, F.pl, F.ql, F.pc, F.qc, ql, qc, N.b⟩, Nat.le_refl _⟩
/-- the series P / Q stands at a -/
def Val (H : Hp) (C a : Addr) (P Q : SerM.Po) (z : Sz) : Prop := Frac P Q z ∧ ∃ u v, SerAt H C a u v ∧ SerM.Red P Q u v
theorem Val.same {H H' : Hp} {C a : Addr} {P Q : SerM.Po} {z : Sz} (h : Val H C a P Q z) (s : Same H H') : Val H' C a P Q z := by
  obtain ⟨f, u, v, h1, h2⟩ := h
  exact ⟨f, u, v, h1.same s, h2⟩
/-- what stands there -/
structure Rows (H : Hp) (C a dx x y : Addr) (o : V) (P Q u v : SerM.Po) (z : Sz) : Prop where
  ha : H a = some (.ins C dx (serFs x y o))
  hx : H x = some (.lst (iv u))
  hy : H y = some (.lst (iv v))
  ord : OrdV u o
  red : SerM.Red P Q u v
  ul : u.length ≤ z.m
  vl : v.length ≤ z.m
  uc : ∀ i, (SerM.co u i).natAbs ≤ SerM.fb z.A z.m
  vc : ∀ i, (SerM.co v i).natAbs ≤ SerM.fb z.A z.m
theorem Val.rows {H : Hp} {C a : Addr} {P Q : SerM.Po} {z : Sz} (h : Val H C a P Q z) : ∃ dx x y o u v, Rows H C a dx x y o P Q u v z := by
  obtain ⟨f, u, v, ⟨dx, x, y, o, h1, h2, h3, h4⟩, R⟩ := h
  obtain ⟨a1, a2, a3, a4⟩ := SerM.red_small f.q1 R f.pl f.ql f.pc f.qc
  exact ⟨dx, x, y, o, u, v, h1, h2, h3, h4, R, a1, a2, a3, a4⟩
theorem Rows.same {H H' : Hp} {C a dx x y : Addr} {o : V} {P Q u v : SerM.Po} {z : Sz} (h : Rows H C a dx x y o P Q u v z) (s : Same H H') : Rows H' C a dx x y o P Q u v z :=
  ⟨s _ _ h.ha, s _ _ h.hx, s _ _ h.hy, h.ord, h.red, h.ul, h.vl, h.uc, h.vc⟩
theorem ser_made {C a dx : Addr} {H : Hp} {x y : V} {p q : SerM.Po} {c : Nat} {R : Hp → Prop} (ha : H a = none) (hdx : H dx = none) (ne : dx ≠ a) (Rx : RowV K H x p) (Ry : RowV K H y q) (I : RedIn p q c) (h : ∀ (u v : SerM.Po) (H' : Hp), SerM.Red p q u v → Same H H' → SerNew H H' C a u v → R H') :
    spSerI K C [.ref a, x, y] (upd (upd H dx (.own a)) a (.ins C dx [])) (fun v H2 => v = .non ∧ R H2) E0 := by
  have h1 : upd H dx (.own a) a = none := by rw [upd_ne ne.symm]; exact ha
  have s : Same H (upd (upd H dx (.own a)) a (.ins C dx [])) := (same_upd hdx _).trans (same_upd h1 _)
  refine ⟨a, dx, x, y, p, q, c, rfl, upd_same, Rx.same s, Ry.same s, I, fun u v H' R keep S => ⟨rfl, h u v H' R (fun b o hb => ?_) ?_⟩⟩
  · exact keep b o (ne_of_none hb ha) (s b o hb)
  · obtain ⟨dx', x', y', z', h1, h2, h3, h4, h5, h6⟩ := S
    exact ⟨dx', x', y', z', h1, h2, h3, h4, s.free h5, s.free h6⟩
theorem ser_madeV {C a dx : Addr} {H : Hp} {x y : V} {p q P' Q' : SerM.Po} {z : Sz} {m2 A2 : Nat} {R : Hp → Prop} (ha : H a = none) (hdx : H dx = none) (ne : dx ≠ a) (Rx : RowV K H x p) (Ry : RowV K H y q) (F : Frac P' Q' z) (N : FitN z m2 A2) (pl : p.length ≤ m2) (ql : q.length ≤ m2) (pc : ∀ i, (SerM.co p i).natAbs ≤ A2) (qc : ∀ i, (SerM.co q i).natAbs ≤ A2) (q1 : SerM.ev q 0 = 1) (same : ∀ x, SerM.ev p x * SerM.ev Q' x = SerM.ev P' x * SerM.ev q x) (h : ∀ (H' : Hp), Same H H' → Val H' C a P' Q' z → R H') :
    spSerI K C [.ref a, x, y] (upd (upd H dx (.own a)) a (.ins C dx [])) (fun v H2 => v = .non ∧ R H2) E0 :=
  ser_made ha hdx ne Rx Ry (F.inn N pl ql pc qc q1 same) fun u v H' Rd s S => h H' s ⟨F, u, v, S.at_, SerM.red_of F.q1 q1 same Rd⟩
structure Fit1 (z : Sz) : Prop where
  a : FitN z z.m z.A
  b : FitN z z.m (SerM.fb z.A z.m)
def Fit2 (y z r : Sz) : Prop := FitN r (y.m + z.m) (2 * ((y.m + z.m) * (SerM.fb y.A y.m * SerM.fb z.A z.m)))
/-- a series, or the series of a number -/
def Oth (H : Hp) (C : Addr) (y : V) (P Q : SerM.Po) (z : Sz) : Prop := (∃ b, y = .ref b ∧ Val H C b P Q z) ∨ ∃ i : Int, y = .int i ∧ P = [i] ∧ Q = [1] ∧ Frac P Q z
theorem Oth.same {H H' : Hp} {C : Addr} {y : V} {P Q : SerM.Po} {z : Sz} (h : Oth H C y P Q z) (s : Same H H') : Oth H' C y P Q z := by
  rcases h with ⟨b, rfl, h⟩ | h
  · exact .inl ⟨b, rfl, h.same s⟩
  · exact .inr h
/-- how the class is called: two values; one, the other's value is (1,) -/
structure MakS (P : Program) (w : World) (K : PySem.W.Frag) (mg : Str → Option Value) (base : Heap) (C : Addr) (fI : Addr) (fd : FuncData) (d : V) (dv : List Value) : Prop where
  mkS : Mk K C fI
  ok : FnOk P w K mg base CX0 5 fI fd serPs (spSerI K C)
  m : mg "Series" = some (.ref C)
  b2 : Binds K fd serPs []
  b1 : Binds K fd serPs dv
  dS : Vals [d] dv
  row : ∀ H, RowV K H d [1]
theorem co_neg (u : SerM.Po) (i : Nat) : SerM.co (u.map fun z => -z) i = - SerM.co u i := by
  unfold SerM.co
  rw [List.getD_eq_getElem?_getD, List.getD_eq_getElem?_getD, List.getElem?_map]
  cases u[i]? <;> simp
theorem ev_neg (u : SerM.Po) (x : Int) : SerM.ev (u.map fun z => -z) x = - SerM.ev u x := by
  induction u with
  | nil => show (0 : Int) = -0; omega
  | cons a r ih =>
    show -a + _ * _ = -(a + _ * _)
    rw [ih]; grind
abbrev sAsSeries : Stmt := top 31
abbrev sS_neg : Stmt := inClass sSeries 13
def spAsS (C : Addr) : Sp := fun vs H Q _ => ∃ (y : V) (P Q' : SerM.Po) (z : Sz), vs = [y] ∧ Oth H C y P Q' z ∧ Fit1 z ∧ ∀ b H', Same H H' → Val H' C b P Q' z → Q (.ref b) H'
theorem scAsSeries : FnScope ["value"] ["value"] (defScope sAsSeries) := ⟨rfl, rfl, rfl, by decide +kernel, rfl, by decide +kernel, by decide +kernel⟩
theorem RowV.lst {H : Hp} {a : Addr} {p : SerM.Po} (h : H a = some (.lst (iv p))) : RowV K H (.ref a) p := ⟨a, rfl, .inl (SqL.of h)⟩
theorem ok_asS {f C g fI : Addr} {fd gd dI : FuncData} {d : V} {dv : List Value} (F : Fun K "as_series" "as_series" sAsSeries f fd) (IN : IsS K C) (M : MakS P w K mg base C fI dI d dv) (misi : mg "isinstance" = none) (GI : Df P w K mg base 1 g gd "is_integer" ["value"] (spInteger K)) : FnOk P w K mg base CX0 7 f fd ["value"] (spAsS C) := by
  refine F.ok scAsSeries (fun vs H Q E h => ?_) (fun cdv A outer s H vs Q E hr h => ?_)
  · obtain ⟨y, P', Q', z, rfl, _⟩ := h
    rfl
  obtain ⟨y, P', Q', z, rfl, O, N, q⟩ := h
  obtain ⟨mkS, okS, mC, bS2, bS1, dS, rowS⟩ := M
  refine ⟨_, (pss_cons (ps_if (pt_val (pe_callB (call_isS IN) (by rfl) misi (by decide +kernel) (pa_cons (pv 0) (pa_cons (C8.pe_gc (v := .ref C) (by rfl) ⟨_, mC, rfl⟩) pa_nil))))
 (pss_one (ps_ret (pv 0)))
 pss_nil)
 (pss_one (ps_ret (pe_ifExp (pt_val (pe_call GI.ok (hr.mono (by decide)) (by rfl) GI.m GI.kp GI.b .nil pass0 (pa_cons (pv 0) pa_nil))) (pe_make mkS okS (hr.mono (by decide)) (by rfl) mC bS1 dS pass0 (pa_cons (pe_lst (pa_cons (pv 0) pa_nil)) pa_nil)) pe_non)))), ?_⟩
  rcases O with ⟨b, rfl, V'⟩ | ⟨i, rfl, rfl, rfl, Fr⟩
  · obtain ⟨dx, x, y', o, u, v, R⟩ := V'.rows
    exact ⟨_, rfl, .inl ⟨b, dx, _, rfl, R.ha, _, rfl, iteT ⟨_, rfl, q b H (Same.refl _) V'⟩⟩⟩
  · refine ⟨_, rfl, .inr (.inr ⟨i, rfl, _, rfl, iteF ?_⟩)⟩
    refine ⟨_, rfl, .int i, "int", true, false, rfl, .base (.int i), by decide +kernel, by decide +kernel, _, rfl, iteT ?_⟩
    refine ⟨_, rfl, (by show 1 ≤ sizeLine; decide), fun l hl => ?_⟩
    have s1 := same_upd hl (.lst [V.int i])
    have h1 : upd H l (.lst [V.int i]) l = some (.lst (iv [i])) := upd_same
    generalize upd H l (.lst [V.int i]) = H1 at s1 h1 ⊢
    intro a dx ha hdx ne
    exact ser_madeV (C := C) ha hdx ne (RowV.lst h1) (rowS _) Fr N.a Fr.pl Fr.ql Fr.pc Fr.qc Fr.q1 (fun _ => rfl) fun H' s2 V' => q a H' (s1.trans s2) V'
/-! ### unary - -/
def spNegS (C : Addr) : Sp := fun vs H Q _ => ∃ (a : Addr) (P Q' P2 : SerM.Po) (z : Sz), vs = [.ref a] ∧ Val H C a P Q' z ∧ Fit1 z ∧ Frac P2 Q' z ∧ (∀ x, SerM.ev P2 x = - SerM.ev P x) ∧ ∀ b H', Same H H' → Val H' C b P2 Q' z → Q (.ref b) H'
theorem scS_neg : FnScope ["self", "value"] ["self"] (defScope sS_neg) := ⟨rfl, rfl, rfl, by decide +kernel, rfl, by decide +kernel, by decide +kernel⟩
theorem ok_neg {f C fI : Addr} {fd dI : FuncData} {d : V} {dv : List Value} (F : Fun K "__neg__" "Series.__neg__" sS_neg f fd) (C' : SerC K C) (M : MakS P w K mg base C fI dI d dv) : FnOk P w K mg base CX0 7 f fd ["self"] (spNegS C) := by
  refine F.ok scS_neg (fun vs H Q E h => ?_) (fun cdv A outer s H vs Q E hr h => ?_)
  · obtain ⟨a, P1, Q1, P2, z, rfl, _⟩ := h
    rfl
  obtain ⟨a, P1, Q1, P2, z, rfl, V1, N, F2, e, q⟩ := h
  obtain ⟨mkS, okS, mC, bS2, bS1, dS, rowS⟩ := M
  refine ⟨_, (pss_one (ps_ret (pe_make mkS okS (hr.mono (by decide)) (by rfl) mC bS2 .nil pass0 (pa_cons (pe_lc (own := [("value", 1)]) (g := (gName 1)) rfl scS_neg.nd (pi_list (pe_fld (pv 0) rfl)) (blkOk_by (own := [("value", 1)]) (N := ["self", "value"]) (sc := defScope sS_neg) (by decide +kernel)) (fun _ _ _ _ _ => (pg_name (i := 1) scS_neg.nd rfl (Or.inl rfl) (Or.inr rfl))) (fun _ _ _ _ _ => pts_nil) (fun _ _ _ _ _ => (pe_un un_neg (pv 1)))) (pa_cons (pe_fld (pv 0) rfl) pa_nil))))), ?_⟩
  obtain ⟨dx, x, y, o, u, v, R⟩ := V1.rows
  refine ⟨_, rfl, a, C, dx, _, _, rfl, R.ha, C'.cl, C'.t, rfl, ?_⟩
  refine ⟨x, rfl, ⟨_, SqL.of R.hx⟩, fun D hD => ?_⟩
  refine lc_it (walk_list (K := K) (xs := iv u)) (fun i H4 => Same H H4 ∧ H4 D = some (.lst (iv ((u.take i).map fun z => -z)))) ⟨same_upd hD _, upd_same⟩ (fun i H4 _ h => h.1.seq (SqL.of R.hx)) ?_ ?_
  · rintro i z' H4 H5 hi ⟨s4, h4⟩ ⟨rfl, hz⟩
    obtain ⟨hi', rfl⟩ := iv_get hz
    obtain ⟨t, et⟩ : ∃ t, t = SerM.co u i := ⟨_, rfl⟩
    have ht : u[i] = t := by
      rw [et]
      unfold SerM.co
      rw [List.getD_eq_getElem?_getD, List.getElem?_eq_getElem hi']; rfl
    rw [← et]
    have ul := R.ul
    have zm := N.a.m
    have hsz : 1000000 < sizeLine := by decide
    refine ⟨rfl, _, rfl, t, rfl, _, h4, ?_, fun o ob hb => ?_, ?_⟩
    · rw [List.length_map, List.length_map, List.length_take]; omega
    · rw [upd_ne (ne_of_none hb hD)]; exact s4 _ _ hb
    · rw [upd_same, List.take_add_one, List.getElem?_eq_getElem hi', ht, List.map_append]
      show some (HO.lst (iv (List.map _ _) ++ [V.int (-t)])) = some (HO.lst (List.map V.int (_ ++ [-t])))
      rw [List.map_append]; rfl
  rintro H4 ⟨s4, h4⟩
  rw [List.length_map, List.take_length] at h4
  refine ⟨_, rfl, a, C, dx, _, _, rfl, s4 _ _ R.ha, C'.cl, C'.b, rfl, ?_⟩
  intro sa sd hsa hsd sne
  refine ser_madeV (C := C) hsa hsd sne (RowV.lst h4) (RowV.lst (s4 _ _ R.hy)) F2 N.b ?_ R.vl ?_ R.vc R.red.v1 (fun x => ?_) fun H6 s6 V' => q sa H6 (s4.trans s6) V'
  · rw [List.length_map]; exact R.ul
  · intro i
    rw [co_neg, Int.natAbs_neg]; exact R.uc i
  · have := R.red.eq x
    rw [ev_neg, e x]
    grind
end
end Un
namespace Un
open PySem L2 TL
section
variable {P : Program} {w : World} {K : PySem.W.Frag} {mg : Str → Option Value} {base : Heap}
/-! ### + - * of series -/
def AddR (P1 Q1 P2 Q2 P' Q' : SerM.Po) : Prop := ∀ x, SerM.ev P' x * (SerM.ev Q1 x * SerM.ev Q2 x) = (SerM.ev P1 x * SerM.ev Q2 x + SerM.ev P2 x * SerM.ev Q1 x) * SerM.ev Q' x
def SubR (P1 Q1 P2 Q2 P' Q' : SerM.Po) : Prop := ∀ x, SerM.ev P' x * (SerM.ev Q1 x * SerM.ev Q2 x) = (SerM.ev P1 x * SerM.ev Q2 x - SerM.ev P2 x * SerM.ev Q1 x) * SerM.ev Q' x
def RsbR (P1 Q1 P2 Q2 P' Q' : SerM.Po) : Prop := ∀ x, SerM.ev P' x * (SerM.ev Q1 x * SerM.ev Q2 x) = (SerM.ev P2 x * SerM.ev Q1 x - SerM.ev P1 x * SerM.ev Q2 x) * SerM.ev Q' x
def MulR (P1 Q1 P2 Q2 P' Q' : SerM.Po) : Prop := ∀ x, SerM.ev P' x * (SerM.ev Q1 x * SerM.ev Q2 x) = SerM.ev P1 x * SerM.ev P2 x * SerM.ev Q' x
theorem cancel2 {Q1 Q2 p q P' Q' : SerM.Po} (h1 : SerM.ev Q1 0 = 1) (h2 : SerM.ev Q2 0 = 1) (h : ∀ x, (SerM.ev p x * SerM.ev Q' x) * (SerM.ev Q1 x * SerM.ev Q2 x) = (SerM.ev P' x * SerM.ev q x) * (SerM.ev Q1 x * SerM.ev Q2 x)) : ∀ x, SerM.ev p x * SerM.ev Q' x = SerM.ev P' x * SerM.ev q x := fun x => by
  have hz : SerM.ev (SerM.mul Q1 Q2) 0 = 1 := by rw [SerM.ev_mul, h1, h2]; rfl
  have := SerM.ev_cancel (a := SerM.mul p Q') (b := SerM.mul P' q) (SerM.nz_of1 hz) fun x => by
    rw [SerM.ev_mul, SerM.ev_mul, SerM.ev_mul]
    have := h x
    grind
  have := this x
  rw [SerM.ev_mul, SerM.ev_mul] at this
  exact this
theorem add_same {P1 Q1 P2 Q2 P' Q' u v u2 v2 p q : SerM.Po} (h1 : SerM.ev Q1 0 = 1) (h2 : SerM.ev Q2 0 = 1) (R1 : SerM.Red P1 Q1 u v) (R2 : SerM.Red P2 Q2 u2 v2) (R : AddR P1 Q1 P2 Q2 P' Q') (ep : ∀ x, SerM.ev p x = SerM.ev u x * SerM.ev v2 x + SerM.ev u2 x * SerM.ev v x) (eq : ∀ x, SerM.ev q x = SerM.ev v x * SerM.ev v2 x) :
    ∀ x, SerM.ev p x * SerM.ev Q' x = SerM.ev P' x * SerM.ev q x := cancel2 h1 h2 fun x => by
  have a := R1.eq x
  have b := R2.eq x
  have c := R x
  rw [ep, eq]
  grind
theorem mul_same {P1 Q1 P2 Q2 P' Q' u v u2 v2 p q : SerM.Po} (h1 : SerM.ev Q1 0 = 1) (h2 : SerM.ev Q2 0 = 1) (R1 : SerM.Red P1 Q1 u v) (R2 : SerM.Red P2 Q2 u2 v2) (R : MulR P1 Q1 P2 Q2 P' Q') (ep : ∀ x, SerM.ev p x = SerM.ev u x * SerM.ev u2 x) (eq : ∀ x, SerM.ev q x = SerM.ev v x * SerM.ev v2 x) :
    ∀ x, SerM.ev p x * SerM.ev Q' x = SerM.ev P' x * SerM.ev q x := cancel2 h1 h2 fun x => by
  have a := R1.eq x
  have b := R2.eq x
  have c := R x
  rw [ep, eq]
  grind
theorem tab_mul (p q : SerM.Po) (i : Nat) : SerM.co (tab (SerM.co (SerM.mul p q)) (p.length + q.length)) i = SerM.co (SerM.mul p q) i := by
  by_cases h : i < p.length + q.length
  · exact tab_co h
  · rw [SerM.co_len (by rw [tab_len]; omega), SerM.mul_len0 _ _ _ (by omega)]
theorem tab_sum (p q : SerM.Po) (i : Nat) : SerM.co (tab (fun i => SerM.co p i + SerM.co q i) (max p.length q.length)) i = SerM.co p i + SerM.co q i := by
  by_cases h : i < max p.length q.length
  · exact tab_co h
  · rw [SerM.co_len (p := tab _ _) (by rw [tab_len]; omega), SerM.co_len (p := p) (by omega), SerM.co_len (p := q) (by omega)]; rfl
theorem ev_tabmul (p q : SerM.Po) (x : Int) : SerM.ev (tab (SerM.co (SerM.mul p q)) (p.length + q.length)) x = SerM.ev p x * SerM.ev q x := by
  rw [SerM.ev_of_co (tab_mul p q), SerM.ev_mul]
theorem ev_tabsum (p q : SerM.Po) (x : Int) : SerM.ev (tab (fun i => SerM.co p i + SerM.co q i) (max p.length q.length)) x = SerM.ev p x + SerM.ev q x := by
  rw [← SerM.ev_add]
  exact SerM.ev_of_co (fun i => by rw [tab_sum, SerM.co_add]) x
theorem bd_mul {p q : SerM.Po} {n m F G : Nat} (hp : p.length ≤ n) (hP : ∀ i, (SerM.co p i).natAbs ≤ F) (hQ : ∀ i, (SerM.co q i).natAbs ≤ G) (i : Nat) : (SerM.co (tab (SerM.co (SerM.mul p q)) (p.length + q.length)) i).natAbs ≤ (n + m) * (F * G) := by
  rw [tab_mul]
  exact Nat.le_trans (SerM.mul_bd hQ p hP i) (Nat.mul_le_mul_right _ (by omega))
def spBinS (C : Addr) (Rel : SerM.Po → SerM.Po → SerM.Po → SerM.Po → SerM.Po → SerM.Po → Prop) : Sp := fun vs H Q _ => ∃ (a : Addr) (y : V) (P1 Q1 P2 Q2 P' Q' : SerM.Po) (z1 z2 z : Sz), vs = [.ref a, y] ∧ Val H C a P1 Q1 z1 ∧ Oth H C y P2 Q2 z2 ∧ Fit1 z1 ∧ Fit1 z2 ∧ Fit2 z1 z2 z ∧ Frac P' Q' z ∧ Rel P1 Q1 P2 Q2 P' Q' ∧ ∀ b H', Same H H' → Val H' C b P' Q' z → Q (.ref b) H'
abbrev sS_add : Stmt := inClass sSeries 7
abbrev sS_mul : Stmt := inClass sSeries 11
theorem scS_add : FnScope ["self", "other", "added", "top"] ["self", "other"] (defScope sS_add) := ⟨rfl, rfl, rfl, by decide +kernel, rfl, by decide +kernel, by decide +kernel⟩
theorem scS_mul : FnScope ["self", "other", "times"] ["self", "other"] (defScope sS_mul) := ⟨rfl, rfl, rfl, by decide +kernel, rfl, by decide +kernel, by decide +kernel⟩
theorem ok_add {f C g1 g2 g3 fI : Addr} {fd d1 d2 d3 dI : FuncData} {d : V} {dv : List Value} (F : Fun K "__add__" "Series.__add__" sS_add f fd) (C' : SerC K C) (M : MakS P w K mg base C fI dI d dv) (GA : Df P w K mg base 7 g1 d1 "as_series" ["value"] (spAsS C)) (GS : Df P w K mg base 1 g2 d2 "sum_of" ["one", "other"] (spSum K)) (GP : Df P w K mg base 1 g3 d3 "product_of" ["one", "other"] (spProd K)) : FnOk P w K mg base CX0 8 f fd ["self", "other"] (spBinS C AddR) := by
  refine F.ok scS_add (fun vs H Q E h => ?_) (fun cdv A outer s H vs Q E hr h => ?_)
  · obtain ⟨a, y, P1, Q1, P2, Q2, P', Q', z1, z2, z, rfl, _⟩ := h
    rfl
  obtain ⟨a, y, P1, Q1, P2, Q2, P', Q', z1, z2, z, rfl, V1, O, N1, N2, N3, Fr, Rel, q⟩ := h
  obtain ⟨mkS, okS, mC, bS2, bS1, dS, rowS⟩ := M
  refine ⟨_, (pss_cons (ps_set (i := 2) scS_add.nd rfl (by first | exact Or.inl rfl | exact Or.inr rfl) (pe_call GA.ok (hr.mono (by decide)) (by rfl) GA.m GA.kp GA.b .nil pass0 (pa_cons (pv 1) pa_nil)))
 (pss_cons (ps_if (pt_cmpR op_isN (pv 2) pe_non (nomark _))
 pss_never
 pss_nil)
 (pss_cons (ps_set (i := 3) scS_add.nd rfl (by first | exact Or.inl rfl | exact Or.inr rfl) (pe_call GS.ok (hr.mono (by decide)) (by rfl) GS.m GS.kp GS.b .nil pass0 (pa_cons (pe_call GP.ok (hr.mono (by decide)) (by rfl) GP.m GP.kp GP.b .nil pass0 (pa_cons (pe_fld (pv 0) rfl) (pa_cons (pe_fld (pv 2) rfl) pa_nil))) (pa_cons (pe_call GP.ok (hr.mono (by decide)) (by rfl) GP.m GP.kp GP.b .nil pass0 (pa_cons (pe_fld (pv 2) rfl) (pa_cons (pe_fld (pv 0) rfl) pa_nil))) pa_nil))))
 (pss_one (ps_ret (pe_make mkS okS (hr.mono (by decide)) (by rfl) mC bS2 .nil pass0 (pa_cons (pv 3) (pa_cons (pe_call GP.ok (hr.mono (by decide)) (by rfl) GP.m GP.kp GP.b .nil pass0 (pa_cons (pe_fld (pv 0) rfl) (pa_cons (pe_fld (pv 2) rfl) pa_nil))) pa_nil)))))))), ?_⟩
  refine ⟨_, rfl, y, P2, Q2, z2, rfl, O, N2, fun b H1 s1 V2 => ?_⟩
  obtain ⟨dx, x, y1, o, u, v, R1'⟩ := V1.rows
  have R1 := R1'.same s1
  obtain ⟨dx2, x2, y2, o2, u2, v2, R2⟩ := V2.rows
  have m9 := N1.b.m
  have m8 := N2.b.m
  have b1 := N1.b.A
  have b2 := N2.b.A
  refine ⟨_, rfl, rfl, ?_⟩
  rw [decide_eq_false (fun e => by cases e)]
  refine ⟨_, rfl, iteF ?_⟩
  have ul := R1.ul
  have vl := R1.vl
  have ul2 := R2.ul
  have vl2 := R2.vl
  refine ⟨_, rfl, a, C, dx, _, _, rfl, R1.ha, C'.cl, C'.t, rfl, _, rfl, b, C, dx2, _, _, rfl, R2.ha, C'.cl, C'.b, rfl, x, y2, u, v2, 8900, rfl, SqL.of R1.hx, SqL.of R2.hy, by omega, by omega, lt_pow R1.uc b1, lt_pow R2.vc b2, by decide, fun m1 H2 s2 hm1 h2 => ?_⟩
  have R1 := R1.same s2
  have R2 := R2.same s2
  refine ⟨_, rfl, b, C, dx2, _, _, rfl, R2.ha, C'.cl, C'.t, rfl, _, rfl, a, C, dx, _, _, rfl, R1.ha, C'.cl, C'.b, rfl, x2, y1, u2, v, 8900, rfl, SqL.of R2.hx, SqL.of R1.hy, by omega, by omega, lt_pow R2.uc b2, lt_pow R1.vc b1, by decide, fun m2 H3 s3 hm2 h3 => ?_⟩
  have R1 := R1.same s3
  have R2 := R2.same s3
  refine ⟨m1, m2, _, _, rfl, SqL.of (s3 _ _ h2), SqL.of h3, by rw [tab_len]; omega, by rw [tab_len]; omega, fun m3 H4 s4 hm3 h4 => ?_⟩
  have R1 := R1.same s4
  have R2 := R2.same s4
  refine ⟨_, rfl, _, rfl, a, C, dx, _, _, rfl, R1.ha, C'.cl, C'.b, rfl, _, rfl, b, C, dx2, _, _, rfl, R2.ha, C'.cl, C'.b, rfl, y1, y2, v, v2, 8900, rfl, SqL.of R1.hy, SqL.of R2.hy, by omega, by omega, lt_pow R1.vc b1, lt_pow R2.vc b2, by decide, fun m4 H5 s5 hm4 h5 => ?_⟩
  intro sa sd hsa hsd sne
  have q1 := V1.1.q1
  have q2 := V2.1.q1
  refine ser_madeV (C := C) hsa hsd sne (RowV.lst (s5 _ _ h4)) (RowV.lst h5) Fr N3 ?_ ?_ ?_ ?_ ?_ (add_same q1 q2 R1.red R2.red Rel (fun x => ?_) (fun x => ?_)) fun H6 s6 V' => q sa H6 ((s1.trans (s2.trans (s3.trans (s4.trans s5)))).trans s6) V'
  · rw [tab_len, tab_len, tab_len]; omega
  · rw [tab_len]; omega
  · intro i
    rw [tab_sum]
    have e1 := bd_mul (m := z2.m) ul R1.uc R2.vc i
    have e2 := bd_mul (m := z1.m) ul2 R2.uc R1.vc i
    rw [Nat.mul_comm (SerM.fb z2.A z2.m), Nat.add_comm z2.m] at e2
    omega
  · intro i
    have e1 := bd_mul (m := z2.m) vl R1.vc R2.vc i
    omega
  · rw [ev_tabmul, R1.red.v1, R2.red.v1]; rfl
  · rw [ev_tabsum, ev_tabmul, ev_tabmul]
  · rw [ev_tabmul]
theorem ok_mul {f C g1 g3 fI : Addr} {fd d1 d3 dI : FuncData} {d : V} {dv : List Value} (F : Fun K "__mul__" "Series.__mul__" sS_mul f fd) (C' : SerC K C) (M : MakS P w K mg base C fI dI d dv) (GA : Df P w K mg base 7 g1 d1 "as_series" ["value"] (spAsS C)) (GP : Df P w K mg base 1 g3 d3 "product_of" ["one", "other"] (spProd K)) : FnOk P w K mg base CX0 8 f fd ["self", "other"] (spBinS C MulR) := by
  refine F.ok scS_mul (fun vs H Q E h => ?_) (fun cdv A outer s H vs Q E hr h => ?_)
  · obtain ⟨a, y, P1, Q1, P2, Q2, P', Q', z1, z2, z, rfl, _⟩ := h
    rfl
  obtain ⟨a, y, P1, Q1, P2, Q2, P', Q', z1, z2, z, rfl, V1, O, N1, N2, N3, Fr, Rel, q⟩ := h
  obtain ⟨mkS, okS, mC, bS2, bS1, dS, rowS⟩ := M
  refine ⟨_, (pss_cons (ps_set (i := 2) scS_mul.nd rfl (by first | exact Or.inl rfl | exact Or.inr rfl) (pe_call GA.ok (hr.mono (by decide)) (by rfl) GA.m GA.kp GA.b .nil pass0 (pa_cons (pv 1) pa_nil)))
 (pss_cons (ps_if (pt_cmpR op_isN (pv 2) pe_non (nomark _))
 pss_never
 pss_nil)
 (pss_one (ps_ret (pe_make mkS okS (hr.mono (by decide)) (by rfl) mC bS2 .nil pass0 (pa_cons (pe_call GP.ok (hr.mono (by decide)) (by rfl) GP.m GP.kp GP.b .nil pass0 (pa_cons (pe_fld (pv 0) rfl) (pa_cons (pe_fld (pv 2) rfl) pa_nil))) (pa_cons (pe_call GP.ok (hr.mono (by decide)) (by rfl) GP.m GP.kp GP.b .nil pass0 (pa_cons (pe_fld (pv 0) rfl) (pa_cons (pe_fld (pv 2) rfl) pa_nil))) pa_nil))))))), ?_⟩
  refine ⟨_, rfl, y, P2, Q2, z2, rfl, O, N2, fun b H1 s1 V2 => ?_⟩
  obtain ⟨dx, x, y1, o, u, v, R1'⟩ := V1.rows
  have R1 := R1'.same s1
  obtain ⟨dx2, x2, y2, o2, u2, v2, R2⟩ := V2.rows
  have m9 := N1.b.m
  have m8 := N2.b.m
  have b1 := N1.b.A
  have b2 := N2.b.A
  refine ⟨_, rfl, rfl, ?_⟩
  rw [decide_eq_false (fun e => by cases e)]
  refine ⟨_, rfl, iteF ?_⟩
  have ul := R1.ul
  have vl := R1.vl
  have ul2 := R2.ul
  have vl2 := R2.vl
  refine ⟨_, rfl, a, C, dx, _, _, rfl, R1.ha, C'.cl, C'.t, rfl, _, rfl, b, C, dx2, _, _, rfl, R2.ha, C'.cl, C'.t, rfl, x, x2, u, u2, 8900, rfl, SqL.of R1.hx, SqL.of R2.hx, by omega, by omega, lt_pow R1.uc b1, lt_pow R2.uc b2, by decide, fun m1 H2 s2 hm1 h2 => ?_⟩
  have R1 := R1.same s2
  have R2 := R2.same s2
  refine ⟨_, rfl, a, C, dx, _, _, rfl, R1.ha, C'.cl, C'.b, rfl, _, rfl, b, C, dx2, _, _, rfl, R2.ha, C'.cl, C'.b, rfl, y1, y2, v, v2, 8900, rfl, SqL.of R1.hy, SqL.of R2.hy, by omega, by omega, lt_pow R1.vc b1, lt_pow R2.vc b2, by decide, fun m4 H5 s5 hm4 h5 => ?_⟩
  intro sa sd hsa hsd sne
  have q1 := V1.1.q1
  have q2 := V2.1.q1
  refine ser_madeV (C := C) hsa hsd sne (RowV.lst (s5 _ _ h2)) (RowV.lst h5) Fr N3 ?_ ?_ ?_ ?_ ?_ (mul_same q1 q2 R1.red R2.red Rel (fun x => ?_) (fun x => ?_)) fun H6 s6 V' => q sa H6 ((s1.trans (s2.trans s5)).trans s6) V'
  · rw [tab_len]; omega
  · rw [tab_len]; omega
  · intro i
    have e1 := bd_mul (m := z2.m) ul R1.uc R2.uc i
    omega
  · intro i
    have e1 := bd_mul (m := z2.m) vl R1.vc R2.vc i
    omega
  · rw [ev_tabmul, R1.red.v1, R2.red.v1]; rfl
  · rw [ev_tabmul]
  · rw [ev_tabmul]
end
end Un
namespace Un
open PySem L2 TL
section
variable {P : Program} {w : World} {K : PySem.W.Frag} {mg : Str → Option Value} {base : Heap}
/-! ### the reflected operators, - -/
abbrev sS_radd : Stmt := inClass sSeries 8
abbrev sS_sub : Stmt := inClass sSeries 9
abbrev sS_rsub : Stmt := inClass sSeries 10
abbrev sS_rmul : Stmt := inClass sSeries 12
abbrev opPs : List Str := ["self", "other"]
theorem bin_rd {sp : Sp} {H : Hp} {C a : Addr} {y : V} {Q : VK} {P1 Q1 P2 Q2 : SerM.Po} {z1 z2 : Sz} (V1 : Val H C a P1 Q1 z1) (O : Oth H C y P2 Q2 z2) (h : sp [.ref a, y] H Q E0) :
    (∃ a' b dx fs dy gs, V.ref a = .ref a' ∧ y = .ref b ∧ H a' = some (.ins C dx fs) ∧ H b = some (.ins C dy gs) ∧ sp [.ref a', .ref b] H Q E0) ∨ ∃ a' dx fs i, V.ref a = .ref a' ∧ y = .int i ∧ H a' = some (.ins C dx fs) ∧ sp [.ref a', .int i] H Q E0 := by
  obtain ⟨dx, _, _, _, _, _, R⟩ := V1.rows
  rcases O with ⟨b, rfl, V2⟩ | ⟨i, rfl, _⟩
  · obtain ⟨dx2, _, _, _, _, _, R2⟩ := V2.rows
    exact .inl ⟨a, b, dx, _, dx2, _, rfl, rfl, R.ha, R2.ha, h⟩
  · exact .inr ⟨a, dx, _, i, rfl, rfl, R.ha, h⟩
theorem scS_radd : FnScope ["self", "other"] ["self", "other"] (defScope sS_radd) := ⟨rfl, rfl, rfl, by decide +kernel, rfl, by decide +kernel, by decide +kernel⟩
theorem scS_sub : FnScope ["self", "other", "taken"] ["self", "other"] (defScope sS_sub) := ⟨rfl, rfl, rfl, by decide +kernel, rfl, by decide +kernel, by decide +kernel⟩
theorem scS_rsub : FnScope ["self", "other"] ["self", "other"] (defScope sS_rsub) := ⟨rfl, rfl, rfl, by decide +kernel, rfl, by decide +kernel, by decide +kernel⟩
theorem scS_rmul : FnScope ["self", "other"] ["self", "other"] (defScope sS_rmul) := ⟨rfl, rfl, rfl, by decide +kernel, rfl, by decide +kernel, by decide +kernel⟩
theorem ok_radd {f C g : Addr} {fd gd : FuncData} (F : Fun K "__radd__" "Series.__radd__" sS_radd f fd) (MA : OwnX.OMt P w K mg base C 8 g gd "__add__" opPs (spBinS C AddR)) (O : BinO.OpK K C "add" "__add__") : FnOk P w K mg base CX0 9 f fd ["self", "other"] (spBinS C AddR) := by
  refine F.ok scS_radd (fun vs H Q E h => ?_) (fun cdv A outer s H vs Q E hr h => ?_)
  · obtain ⟨a, y, P1, Q1, P2, Q2, P', Q', z1, z2, z, rfl, _⟩ := h
    rfl
  have h' := h
  obtain ⟨a, y, P1, Q1, P2, Q2, P', Q', z1, z2, z, rfl, V1, O2, N1, N2, N3, Fr, Rel, q⟩ := h
  exact ⟨_, (pss_one (ps_ret (pe_op (BinO.op_bin (op := .Add) MA O (hr.mono (by decide))) (pv 0) (pv 1)))), _, rfl, _, rfl, bin_rd V1 O2 ⟨a, y, P1, Q1, P2, Q2, P', Q', z1, z2, z, rfl, V1, O2, N1, N2, N3, Fr, Rel, q⟩⟩
theorem ok_rmul {f C g : Addr} {fd gd : FuncData} (F : Fun K "__rmul__" "Series.__rmul__" sS_rmul f fd) (MM : OwnX.OMt P w K mg base C 8 g gd "__mul__" opPs (spBinS C MulR)) (O : BinO.OpK K C "mul" "__mul__") : FnOk P w K mg base CX0 9 f fd ["self", "other"] (spBinS C MulR) := by
  refine F.ok scS_rmul (fun vs H Q E h => ?_) (fun cdv A outer s H vs Q E hr h => ?_)
  · obtain ⟨a, y, P1, Q1, P2, Q2, P', Q', z1, z2, z, rfl, _⟩ := h
    rfl
  obtain ⟨a, y, P1, Q1, P2, Q2, P', Q', z1, z2, z, rfl, V1, O2, N1, N2, N3, Fr, Rel, q⟩ := h
  exact ⟨_, (pss_one (ps_ret (pe_op (BinO.op_bin (op := .Mult) MM O (hr.mono (by decide))) (pv 0) (pv 1)))), _, rfl, _, rfl, bin_rd V1 O2 ⟨a, y, P1, Q1, P2, Q2, P', Q', z1, z2, z, rfl, V1, O2, N1, N2, N3, Fr, Rel, q⟩⟩
theorem Frac.neg {p q : SerM.Po} {z : Sz} (F : Frac p q z) : Frac (p.map fun t => -t) q z :=
  ⟨by rw [List.length_map]; exact F.pl, F.ql, fun i => by rw [co_neg, Int.natAbs_neg]; exact F.pc i, F.qc, F.q1⟩
theorem ok_sub {f C g g2 g3 : Addr} {fd gd d2 d3 : FuncData} (F : Fun K "__sub__" "Series.__sub__" sS_sub f fd) (GA : Df P w K mg base 7 g2 d2 "as_series" ["value"] (spAsS C)) (MA : OwnX.OMt P w K mg base C 8 g gd "__add__" opPs (spBinS C AddR)) (O : BinO.OpK K C "add" "__add__") (MN : OwnX.OMt P w K mg base C 7 g3 d3 "__neg__" ["self"] (spNegS C)) : FnOk P w K mg base CX0 9 f fd ["self", "other"] (spBinS C SubR) := by
  refine F.ok scS_sub (fun vs H Q E h => ?_) (fun cdv A outer s H vs Q E hr h => ?_)
  · obtain ⟨a, y, P1, Q1, P2, Q2, P', Q', z1, z2, z, rfl, _⟩ := h
    rfl
  obtain ⟨a, y, P1, Q1, P2, Q2, P', Q', z1, z2, z, rfl, V1, O2, N1, N2, N3, Fr, Rel, q⟩ := h
  refine ⟨_, (pss_cons (ps_set (i := 2) scS_sub.nd rfl (by first | exact Or.inl rfl | exact Or.inr rfl) (pe_call GA.ok (hr.mono (by decide)) (by rfl) GA.m GA.kp GA.b .nil pass0 (pa_cons (pv 1) pa_nil)))
 (pss_cons (ps_if (pt_cmpR op_isN (pv 2) pe_non (nomark _))
 pss_never
 pss_nil)
 (pss_one (ps_ret (pe_op (BinO.op_bin (op := .Add) MA O (hr.mono (by decide))) (pv 0) (pe_un (BinO.un_negO MN (hr.mono (by decide))) (pv 2))))))), ?_⟩
  refine ⟨_, rfl, y, P2, Q2, z2, rfl, O2, N2, fun b H1 s1 V2 => ?_⟩
  refine ⟨_, rfl, rfl, ?_⟩
  rw [decide_eq_false (fun e => by cases e)]
  refine ⟨_, rfl, iteF ?_⟩
  obtain ⟨dx2, _, _, _, _, _, R2⟩ := V2.rows
  refine ⟨_, rfl, _, rfl, b, dx2, _, rfl, R2.ha, b, P2, Q2, P2.map fun t => -t, z2, rfl, V2, N2, V2.1.neg, ev_neg P2, fun c H2 s2 V3 => ?_⟩
  have V1' := V1.same (s1.trans s2)
  exact bin_rd V1' (.inl ⟨c, rfl, V3⟩) ⟨a, _, P1, Q1, _, Q2, P', Q', z1, z2, z, rfl, V1', .inl ⟨c, rfl, V3⟩, N1, N2, N3, Fr, fun x => by have := Rel x; rw [ev_neg]; grind, fun e H3 s3 V' => q e H3 ((s1.trans s2).trans s3) V'⟩
theorem ok_rsub {f C g g3 : Addr} {fd gd d3 : FuncData} (F : Fun K "__rsub__" "Series.__rsub__" sS_rsub f fd) (MA : OwnX.OMt P w K mg base C 8 g gd "__add__" opPs (spBinS C AddR)) (O : BinO.OpK K C "add" "__add__") (MN : OwnX.OMt P w K mg base C 7 g3 d3 "__neg__" ["self"] (spNegS C)) : FnOk P w K mg base CX0 9 f fd ["self", "other"] (spBinS C RsbR) := by
  refine F.ok scS_rsub (fun vs H Q E h => ?_) (fun cdv A outer s H vs Q E hr h => ?_)
  · obtain ⟨a, y, P1, Q1, P2, Q2, P', Q', z1, z2, z, rfl, _⟩ := h
    rfl
  obtain ⟨a, y, P1, Q1, P2, Q2, P', Q', z1, z2, z, rfl, V1, O2, N1, N2, N3, Fr, Rel, q⟩ := h
  refine ⟨_, (pss_one (ps_ret (pe_op (BinO.op_bin (op := .Add) MA O (hr.mono (by decide))) (pe_un (BinO.un_negO MN (hr.mono (by decide))) (pv 0)) (pv 1)))), ?_⟩
  obtain ⟨dx, _, _, _, _, _, R⟩ := V1.rows
  refine ⟨_, rfl, a, dx, _, rfl, R.ha, a, P1, Q1, P1.map fun t => -t, z1, rfl, V1, N1, V1.1.neg, ev_neg P1, fun c H2 s2 V3 => ?_⟩
  have O2' := O2.same s2
  exact ⟨_, rfl, bin_rd V3 O2' ⟨c, y, _, Q1, P2, Q2, P', Q', z1, z2, z, rfl, V3, O2', N1, N2, N3, Fr, fun x => by have := Rel x; rw [ev_neg]; grind, fun e H3 s3 V' => q e H3 (s2.trans s3) V'⟩⟩
/-! ### one size for all -/
abbrev uni : Sz := ⟨9, 1048576⟩
theorem fit1U : Fit1 uni := ⟨⟨by decide, by decide +kernel, by decide +kernel⟩, ⟨by decide, by decide +kernel, by decide +kernel⟩⟩
theorem fit2U : Fit2 uni uni uni := ⟨by decide, by decide +kernel, by decide +kernel⟩
abbrev ValU (H : Hp) (C a : Addr) (p q : SerM.Po) : Prop := Val H C a p q uni
theorem ValU.so {H : Hp} {C a : Addr} {p q : SerM.Po} (h : ValU H C a p q) : ∃ u v, SerAt H C a u v ∧ SoIn p q u v 21 96 := by
  obtain ⟨F, u, v, S, R⟩ := h
  obtain ⟨a1, a2, a3, a4⟩ := SerM.red_small F.q1 R F.pl F.ql F.pc F.qc
  have hb : SerM.fb uni.A uni.m < 2 ^ 96 := by decide +kernel
  have c : ∀ {p : SerM.Po}, (∀ i, (SerM.co p i).natAbs ≤ uni.A) → ∀ i, (SerM.co p i).natAbs < 2 ^ 21 := fun h i => Nat.lt_of_le_of_lt (h i) (by decide)
  have m9 : uni.m = 9 := rfl
  have p1 := F.pl
  have p2 := F.ql
  refine ⟨u, v, S, R, by omega, by omega, by omega, by omega, c F.pc, c F.qc, lt_pow a3 hb, lt_pow a4 hb, by decide, by decide, ?_⟩
  have h1 : 2 ^ (u.length + v.length) ≤ 2 ^ 18 := Nat.pow_le_pow_right (by decide) (by omega)
  exact Nat.le_trans (Nat.mul_le_mul_left (96 + 1) h1) (by decide)
theorem bin_rdU {H : Hp} {C a : Addr} {y : V} {Q : VK} {P1 Q1 P2 Q2 P' Q' : SerM.Po} {Rel : SerM.Po → SerM.Po → SerM.Po → SerM.Po → SerM.Po → SerM.Po → Prop} (V1 : ValU H C a P1 Q1) (O : Oth H C y P2 Q2 uni) (Fr : Frac P' Q' uni) (Rl : Rel P1 Q1 P2 Q2 P' Q') (q : ∀ b H', Same H H' → ValU H' C b P' Q' → Q (.ref b) H') :
    (∃ a' b dx fs dy gs, V.ref a = .ref a' ∧ y = .ref b ∧ H a' = some (.ins C dx fs) ∧ H b = some (.ins C dy gs) ∧ spBinS C Rel [.ref a', .ref b] H Q E0) ∨ ∃ a' dx fs i, V.ref a = .ref a' ∧ y = .int i ∧ H a' = some (.ins C dx fs) ∧ spBinS C Rel [.ref a', .int i] H Q E0 :=
  bin_rd V1 O ⟨a, y, P1, Q1, P2, Q2, P', Q', uni, uni, uni, rfl, V1, O, fit1U, fit1U, fit2U, Fr, Rl, q⟩
theorem rbin_rdU {H : Hp} {C a : Addr} {i : Int} {Q : VK} {P1 Q1 P2 Q2 P' Q' : SerM.Po} {Rel : SerM.Po → SerM.Po → SerM.Po → SerM.Po → SerM.Po → SerM.Po → Prop} (V1 : ValU H C a P1 Q1) (O : Oth H C (.int i) P2 Q2 uni) (Fr : Frac P' Q' uni) (Rl : Rel P1 Q1 P2 Q2 P' Q') (q : ∀ b H', Same H H' → ValU H' C b P' Q' → Q (.ref b) H') :
    ∃ j b dy gs, V.int i = .int j ∧ V.ref a = .ref b ∧ H b = some (.ins C dy gs) ∧ spBinS C Rel [.ref b, .int j] H Q E0 := by
  obtain ⟨dx, _, _, _, _, _, R⟩ := V1.rows
  exact ⟨i, a, dx, _, rfl, rfl, R.ha, a, _, P1, Q1, P2, Q2, P', Q', uni, uni, uni, rfl, V1, O, fit1U, fit1U, fit2U, Fr, Rl, q⟩
end
end Un
namespace Un
open PySem L2 TL
section
variable {P : Program} {w : World} {K : PySem.W.Frag} {mg : Str → Option Value} {base : Heap}
/-! ### errors that are raised -/
open XV
def spI0 (C : Addr) (c : Str) : Sp := fun vs H Q _ => ∃ a, vs = [.ref a] ∧ H a = some (exo a C none) ∧ ∀ d H', H d = none → d ≠ a → H' a = some (exo a C (some d)) → H' d = some (exd d [("code", .str c)]) → (∀ b o, H b = some o → b ≠ a → H' b = some o) → Q .non H'
def spI1 (C : Addr) (c f : Str) : Sp := fun vs H Q _ => ∃ a x, vs = [.ref a, x] ∧ H a = some (exo a C none) ∧ ∀ d H', H d = none → d ≠ a → H' a = some (exo a C (some d)) → H' d = some (exd d [(f, x), ("code", .str c)]) → (∀ b o, H b = some o → b ≠ a → H' b = some o) → Q .non H'
abbrev sEInvalidSeries : Stmt := inClass (top 5) 0
theorem scEInvalidSeries : FnScope ["self"] ["self"] (defScope sEInvalidSeries) := ⟨rfl, rfl, rfl, by decide +kernel, rfl, by decide +kernel, by decide +kernel⟩
theorem ok_eInvalidSeries {f C : Addr} {fd : FuncData} (F : Fun K "__init__" "InvalidSeries.__init__" sEInvalidSeries f fd) (T : OexG K C) (n0 : PySem.W.findIn K (.ref C) "code" = some none) : FnOk P w K mg base CX0 1 f fd ["self"] (spI0 C "InvalidSeries") := by
  refine F.ok scEInvalidSeries (fun vs H Q E h => ?_) (fun cdv A outer s H vs Q E hr h => ?_)
  · obtain ⟨a, rfl, _⟩ := h
    rfl
  obtain ⟨a, rfl, ha, q⟩ := h
  refine ⟨_, pss_one (ps_ostG (pv 0) pe_str), ?_⟩
  refine ⟨_, rfl, a, C, rfl, T, n0, .inl ⟨ha, fun d hd nd => ?_⟩⟩
  have na : a ≠ d := Ne.symm nd
  refine q d _ hd nd ?_ ?_ fun b o e nb => ?_
  · first | (rw [upd_ne na, upd_same]) | (rw [upd_same])
  · first | (rw [upd_same]) | (rw [upd_ne nd, upd_same])
  · first | (rw [upd_ne (ne_of_none e hd), upd_ne nb]; exact e) | (rw [upd_ne nb, upd_ne (ne_of_none e hd)]; exact e)
abbrev sEInvalidNumber : Stmt := inClass (top 4) 0
theorem scEInvalidNumber : FnScope ["self", "value"] ["self", "value"] (defScope sEInvalidNumber) := ⟨rfl, rfl, rfl, by decide +kernel, rfl, by decide +kernel, by decide +kernel⟩
theorem ok_eInvalidNumber {f C : Addr} {fd : FuncData} (F : Fun K "__init__" "InvalidNumber.__init__" sEInvalidNumber f fd) (T : OexG K C) (n0 : PySem.W.findIn K (.ref C) "code" = some none) (n1 : PySem.W.findIn K (.ref C) "value" = some none) : FnOk P w K mg base CX0 1 f fd ["self", "value"] (spI1 C "InvalidNumber" "value") := by
  refine F.ok scEInvalidNumber (fun vs H Q E h => ?_) (fun cdv A outer s H vs Q E hr h => ?_)
  · obtain ⟨a, x, rfl, _⟩ := h
    rfl
  obtain ⟨a, x, rfl, ha, q⟩ := h
  refine ⟨_, pss_cons (ps_ostG (pv 0) pe_str) (pss_one (ps_ostG (pv 0) (pv 1))), ?_⟩
  refine ⟨_, rfl, a, C, rfl, T, n0, .inl ⟨ha, fun d hd nd => ?_⟩⟩
  have na : a ≠ d := Ne.symm nd
  refine ⟨_, rfl, _, rfl, a, C, rfl, T, n1, .inr ⟨d, _, upd_same, by rw [upd_ne nd, upd_same], (by show 1 ≤ 900; decide), ?_⟩⟩
  refine q d _ hd nd (by rw [upd_ne na, upd_same]) upd_same fun b o e nb => ?_
  rw [upd_ne (ne_of_none e hd), upd_ne nb, upd_ne (ne_of_none e hd)]
  exact e
/-- an error class that can be made -/
structure Xr (P : Program) (w : World) (K : PySem.W.Frag) (mg : Str → Option Value) (base : Heap) (C : Addr) (n : Nat) (fI : Addr) (fd : FuncData) (x : Str) (ps : List Str) (sp : Sp) (g : List Value → List Value → List Value) : Prop where
  x : Xm P w K mg base C 1 fI fd x ps sp
  kb : KBn K fd ps (n + 1) [] g (fun vs zs => vs ++ zs)
/-- the way out by an error of class C with the fields fs -/
def XkE (C : Addr) (fs : List (Str × V)) (H : Hp) (E : XK) : Prop := ∀ d H', Same H H' → H d = none → H' d = some (exd d fs) → E (.ref C) (some d) H'
theorem XkE.from {C : Addr} {fs : List (Str × V)} {H H1 : Hp} {E : XK} (h : XkE C fs H E) (s : Same H H1) : XkE C fs H1 E := fun d H' s' hd hd' => h d H' (s.trans s') (s.free hd) hd'
theorem mk_raise1 {X : Cx} {C a : Addr} {c f : Str} {v : V} {H H1 : Hp} {Z : Value → Option Addr → Hp → Prop} (T : OexG X.K C) (hH : X.H_0 = H) (s : Same H H1) (ha : H1 a = none) (z : ∀ d H', Same H1 H' → H1 d = none → H' d = some (exd d [(f, v), ("code", .str c)]) → Z (.ref C) (some d) H') :
    spI1 C c f [.ref a, v] (upd H1 a (exo a C none)) (fun u H3 => u = .non ∧ ∃ a' C' d, V.ref a = .ref a' ∧ H3 a' = some (exo a' C' (some d)) ∧ Fr0 X.H_0 a' ∧ Raises X (.ref C') ∧ Z (.ref C') (some d) (delH H3 a')) E0 := by
  refine ⟨a, v, rfl, upd_same, fun d H' hd nd ha' hd' keep => ⟨rfl, a, C, d, rfl, ha', fr0_none (by rw [hH]; exact s.free ha), raises_own T.exC T.tyC, ?_⟩⟩
  rw [upd_ne nd] at hd
  refine z d (delH H' a) (fun b o hb => ?_) hd (by rw [delH_ne nd]; exact hd')
  have nb : b ≠ a := ne_of_none hb ha
  rw [delH_ne nb]
  exact keep b o (by rw [upd_ne nb]; exact hb) nb
theorem mk_raise0 {X : Cx} {C a : Addr} {c : Str} {H H1 : Hp} {Z : Value → Option Addr → Hp → Prop} (T : OexG X.K C) (hH : X.H_0 = H) (s : Same H H1) (ha : H1 a = none) (z : ∀ d H', Same H1 H' → H1 d = none → H' d = some (exd d [("code", .str c)]) → Z (.ref C) (some d) H') :
    spI0 C c [.ref a] (upd H1 a (exo a C none)) (fun u H3 => u = .non ∧ ∃ a' C' d, V.ref a = .ref a' ∧ H3 a' = some (exo a' C' (some d)) ∧ Fr0 X.H_0 a' ∧ Raises X (.ref C') ∧ Z (.ref C') (some d) (delH H3 a')) E0 := by
  refine ⟨a, rfl, upd_same, fun d H' hd nd ha' hd' keep => ⟨rfl, a, C, d, rfl, ha', fr0_none (by rw [hH]; exact s.free ha), raises_own T.exC T.tyC, ?_⟩⟩
  rw [upd_ne nd] at hd
  refine z d (delH H' a) (fun b o hb => ?_) hd (by rw [delH_ne nd]; exact hd')
  have nb : b ≠ a := ne_of_none hb ha
  rw [delH_ne nb]
  exact keep b o (by rw [upd_ne nb]; exact hb) nb
end
end Un
namespace Un
open PySem L2 TL
section
variable {P : Program} {w : World} {K : PySem.W.Frag} {mg : Str → Option Value} {base : Heap}
open XV
abbrev sField : Stmt := top 41
abbrev sWhy : Stmt := top 40
theorem okE {x qual : Str} {st : Stmt} {f : Addr} {fd : FuncData} {N ps : List Str} {k : Nat} {sp : Addr → Value → Option Addr → Sp} (F : Fun K x qual st f fd) (S : FnScope N ps (defScope st)) (len : ∀ a cls d vs H Q E, sp a cls d vs H Q E → vs.length = ps.length)
    (hb : ∀ (cdv : Value) (A : Around) (outer : List Env) (s : Shared) (H : Hp) (vs : List V) (Q : VK) (E : XK) (p : Addr × Obj) (cls : Value) (d : Option Addr), ExR.Bears (L2H.cxH CX0 P w K mg base N qual (defScope st) f cdv A outer s H E p) p cls d → sp p.1 cls d vs H Q E →
      ∃ t, PSs (L2H.cxH CX0 P w K mg base N qual (defScope st) f cdv A outer s H E p) (defBody st) t ∧ t { nx := fun _ H' => Q .non H', rt := Q } (L2.start N vs) H) : ExR.FnE P w K mg base CX0 (k + 1) f fd ps sp := by
  obtain ⟨oc, od, kV, doc, pm, an, cdv, ct, osl, rfl, lk, hcd⟩ := F.ex
  exact ExR.fn_ofE lk hcd S len fun A outer s H vs Q E p cls d hz hf hr hsp => hb cdv A outer s H vs Q E p cls d ⟨List.mem_singleton.mpr rfl, hz, hf⟩ hsp
def attrsX : List Str := ["code", "order", "value"]
inductive DueOf (fs : List (Str × V)) : Str → List V → Prop where
  | cInvalidSeries : DueOf fs "InvalidSeries" []
  | cInvalidNumber {x : V} : fs.lookup ("value" : Str) = some x → DueOf fs "InvalidNumber" [x]
structure ErrAt (K : PySem.W.Frag) (H : Hp) (cls : Value) (d : Option Addr) (code : Str) (due : List V) : Prop where
  ex : ∃ C dd fs, cls = .ref C ∧ XfC K C ∧ (∀ n ∈ attrsX, PySem.W.findIn K (.ref C) n = some none) ∧ d = some dd ∧ H dd = some (exd dd fs) ∧ fs.lookup ("code" : Str) = some (.str code) ∧ DueOf fs code due
theorem ErrAt.same {H H' : Hp} {cls : Value} {d : Option Addr} {code : Str} {due : List V} (h : ErrAt K H cls d code due) (s : Same H H') : ErrAt K H' cls d code due := by
  obtain ⟨C, dd, fs, h1, h2, h3, h4, h5, h6⟩ := h.ex
  exact ⟨C, dd, fs, h1, h2, h3, h4, s _ _ h5, h6⟩
def spFieldE (K : PySem.W.Frag) (a : Addr) (cls : Value) (d : Option Addr) : Sp := fun vs H Q _ => ∃ (code : Str) (due : List V), vs = [.ref a] ∧ ErrAt K H cls d code due ∧ ∀ t H', Same H H' → H t = none → H' t = some (.tup due) → Q (.ref t) H'
theorem scField : FnScope ["_law_e", "_law_code"] ["_law_e"] (defScope sField) := ⟨rfl, rfl, rfl, by decide +kernel, rfl, by decide +kernel, by decide +kernel⟩
theorem ok_fieldE {f : Addr} {fd : FuncData} (F : Fun K "_law_field" "_law_field" sField f fd) : ExR.FnE P w K mg base CX0 1 f fd ["_law_e"] (spFieldE K) := by
  refine okE F scField (fun a cls d vs H Q E h => ?_) (fun cdv A outer s H vs Q E p cls d B h => ?_)
  · obtain ⟨code, due, rfl, _⟩ := h
    rfl
  obtain ⟨code, due, rfl, er, q⟩ := h
  obtain ⟨C, dd, fs, hcl, hxf, hat, hd, hdd, hc, hdue⟩ := er.ex
  refine ⟨_, (pss_cons (ps_set (i := 1) scField.nd rfl (by first | exact Or.inl rfl | exact Or.inr rfl) (ExR.pe_xe B (pv 0)))
 (pss_cons (ps_if (pt_cmpR op_in_seq (pv 1) (pe_tup (pa_cons pe_str (pa_cons pe_str (pa_cons pe_str pa_nil)))) (by rfl))
 (pss_one (ps_ret (pe_tup (pa_cons (ExR.pe_xe B (pv 0)) pa_nil))))
 pss_nil)
 (pss_cons (ps_if (pt_cmpR op_in_seq (pv 1) (pe_tup (pa_cons pe_str (pa_cons pe_str (pa_cons pe_str (pa_cons pe_str (pa_cons pe_str (pa_cons pe_str (pa_cons pe_str pa_nil)))))))) (by rfl))
 (pss_one (ps_ret (pe_tup (pa_cons (ExR.pe_xe B (pv 0)) pa_nil))))
 pss_nil)
 (pss_cons (ps_if (pt_cmpR op_in_seq (pv 1) (pe_tup (pa_cons pe_str (pa_cons pe_str pa_nil))) (by rfl))
 (pss_one (ps_ret (pe_tup (pa_cons (pe_ifExp (pt_cmpR op_eq (pv 1) pe_str (nomark _)) (ExR.pe_xe B (pv 0)) (ExR.pe_xe B (pv 0))) pa_nil))))
 pss_nil)
 (pss_cons (ps_if (pt_cmpR op_in_seq (pv 1) (pe_tup (pa_cons pe_str (pa_cons pe_str (pa_cons pe_str pa_nil)))) (by rfl))
 (pss_one (ps_ret (pe_tup (pa_cons (ExR.pe_xe B (pv 0)) pa_nil))))
 pss_nil)
 (pss_cons (ps_if (pt_cmpR op_in_seq (pv 1) (pe_tup (pa_cons pe_str (pa_cons pe_str pa_nil))) (by rfl))
 (pss_one (ps_ret (pe_tup (pa_cons (ExR.pe_xe B (pv 0)) pa_nil))))
 pss_nil)
 (pss_cons (ps_if (pt_cmpR op_in_seq (pv 1) (pe_tup (pa_cons pe_str (pa_cons pe_str pa_nil))) (by rfl))
 (pss_one (ps_ret (pe_ifExp (pt_cmpR op_eq (pv 1) pe_str (nomark _)) (pe_tup (pa_cons (ExR.pe_xe B (pv 0)) (pa_cons (ExR.pe_xe B (pv 0)) pa_nil))) (pe_tup (pa_cons (ExR.pe_xe B (pv 0)) (pa_cons (ExR.pe_xe B (pv 0)) pa_nil))))))
 pss_nil)
 (pss_cons (ps_if (pt_cmpR op_in_seq (pv 1) (pe_tup (pa_cons pe_str (pa_cons pe_str pa_nil))) (by rfl))
 (pss_one (ps_ret (pe_tup (pa_cons (pe_ifExp (pt_cmpR op_eq (pv 1) pe_str (nomark _)) (ExR.pe_xe B (pv 0)) (ExR.pe_xe B (pv 0))) pa_nil))))
 pss_nil)
 (pss_cons (ps_if (pt_cmpR op_in_seq (pv 1) (pe_tup (pa_cons pe_str (pa_cons pe_str pa_nil))) (by rfl))
 (pss_one (ps_ret (pe_tup (pa_cons (pe_ifExp (pt_cmpR op_eq (pv 1) pe_str (nomark _)) (ExR.pe_xe B (pv 0)) (ExR.pe_xe B (pv 0))) pa_nil))))
 pss_nil)
 (pss_one (ps_ret (pe_tup pa_nil)))))))))))), ?_⟩
  refine ⟨_, rfl, C, dd, fs, _, rfl, hcl, hxf, hat _ (by decide), hd, hdd, hc, ?_⟩
  have fin : ∀ {H1 H2 : Hp} {t : Addr}, Same H H1 → H1 t = none → H2 = upd H1 t (.tup due) → Q (.ref t) H2 := fun s ht e => q _ _ (by rw [e]; exact s.trans (same_upd ht _)) (s.free ht) (by rw [e]; exact upd_same)
  cases hdue with
  | cInvalidSeries =>
    refine ⟨_, rfl, (by show 3 ≤ sizeLine; decide), fun t0 q0 => ⟨t0, _, rfl, .inr (SqT.of upd_same), rfl, rfl, _, rfl, ?_⟩⟩
    have s0 := same_upd q0 (.tup [V.str "InvalidName", V.str "InvalidNumber", V.str "InvalidLimit"])
    generalize (upd H t0 (.tup [V.str "InvalidName", V.str "InvalidNumber", V.str "InvalidLimit"])) = G0 at s0 ⊢
    rw [show inV (V.str "InvalidSeries") [V.str "InvalidName", V.str "InvalidNumber", V.str "InvalidLimit"] = false by decide +kernel]
    refine iteF ?_
    refine ⟨_, rfl, (by show 7 ≤ sizeLine; decide), fun t1 q1 => ⟨t1, _, rfl, .inr (SqT.of upd_same), rfl, rfl, _, rfl, ?_⟩⟩
    have s1 := s0.trans (same_upd q1 (.tup [V.str "InvalidPart", V.str "InvalidOuts", V.str "InvalidUse", V.str "InvalidSheet", V.str "InvalidFact", V.str "InvalidDeed", V.str "InvalidCommand"]))
    generalize (upd G0 t1 (.tup [V.str "InvalidPart", V.str "InvalidOuts", V.str "InvalidUse", V.str "InvalidSheet", V.str "InvalidFact", V.str "InvalidDeed", V.str "InvalidCommand"])) = G1 at s1 ⊢
    rw [show inV (V.str "InvalidSeries") [V.str "InvalidPart", V.str "InvalidOuts", V.str "InvalidUse", V.str "InvalidSheet", V.str "InvalidFact", V.str "InvalidDeed", V.str "InvalidCommand"] = false by decide +kernel]
    refine iteF ?_
    refine ⟨_, rfl, (by show 2 ≤ sizeLine; decide), fun t2 q2 => ⟨t2, _, rfl, .inr (SqT.of upd_same), rfl, rfl, _, rfl, ?_⟩⟩
    have s2 := s1.trans (same_upd q2 (.tup [V.str "InvalidText", V.str "InvalidPage"]))
    generalize (upd G1 t2 (.tup [V.str "InvalidText", V.str "InvalidPage"])) = G2 at s2 ⊢
    rw [show inV (V.str "InvalidSeries") [V.str "InvalidText", V.str "InvalidPage"] = false by decide +kernel]
    refine iteF ?_
    refine ⟨_, rfl, (by show 3 ≤ sizeLine; decide), fun t3 q3 => ⟨t3, _, rfl, .inr (SqT.of upd_same), rfl, rfl, _, rfl, ?_⟩⟩
    have s3 := s2.trans (same_upd q3 (.tup [V.str "DuplicateName", V.str "UnlikeKinds", V.str "UnknownName"]))
    generalize (upd G2 t3 (.tup [V.str "DuplicateName", V.str "UnlikeKinds", V.str "UnknownName"])) = G3 at s3 ⊢
    rw [show inV (V.str "InvalidSeries") [V.str "DuplicateName", V.str "UnlikeKinds", V.str "UnknownName"] = false by decide +kernel]
    refine iteF ?_
    refine ⟨_, rfl, (by show 2 ≤ sizeLine; decide), fun t4 q4 => ⟨t4, _, rfl, .inr (SqT.of upd_same), rfl, rfl, _, rfl, ?_⟩⟩
    have s4 := s3.trans (same_upd q4 (.tup [V.str "Circular", V.str "UnknownPiece"]))
    generalize (upd G3 t4 (.tup [V.str "Circular", V.str "UnknownPiece"])) = G4 at s4 ⊢
    rw [show inV (V.str "InvalidSeries") [V.str "Circular", V.str "UnknownPiece"] = false by decide +kernel]
    refine iteF ?_
    refine ⟨_, rfl, (by show 2 ≤ sizeLine; decide), fun t5 q5 => ⟨t5, _, rfl, .inr (SqT.of upd_same), rfl, rfl, _, rfl, ?_⟩⟩
    have s5 := s4.trans (same_upd q5 (.tup [V.str "InUse", V.str "TooMany"]))
    generalize (upd G4 t5 (.tup [V.str "InUse", V.str "TooMany"])) = G5 at s5 ⊢
    rw [show inV (V.str "InvalidSeries") [V.str "InUse", V.str "TooMany"] = false by decide +kernel]
    refine iteF ?_
    refine ⟨_, rfl, (by show 2 ≤ sizeLine; decide), fun t6 q6 => ⟨t6, _, rfl, .inr (SqT.of upd_same), rfl, rfl, _, rfl, ?_⟩⟩
    have s6 := s5.trans (same_upd q6 (.tup [V.str "TooEarly", V.str "InvalidTable"]))
    generalize (upd G5 t6 (.tup [V.str "TooEarly", V.str "InvalidTable"])) = G6 at s6 ⊢
    rw [show inV (V.str "InvalidSeries") [V.str "TooEarly", V.str "InvalidTable"] = false by decide +kernel]
    refine iteF ?_
    refine ⟨_, rfl, (by show 2 ≤ sizeLine; decide), fun t7 q7 => ⟨t7, _, rfl, .inr (SqT.of upd_same), rfl, rfl, _, rfl, ?_⟩⟩
    have s7 := s6.trans (same_upd q7 (.tup [V.str "Full", V.str "Ring"]))
    generalize (upd G6 t7 (.tup [V.str "Full", V.str "Ring"])) = G7 at s7 ⊢
    rw [show inV (V.str "InvalidSeries") [V.str "Full", V.str "Ring"] = false by decide +kernel]
    refine iteF ?_
    exact ⟨(by show 0 ≤ sizeLine; decide), fun t ht => fin s7 ht rfl⟩
  | cInvalidNumber hx =>
    refine ⟨_, rfl, (by show 3 ≤ sizeLine; decide), fun t0 q0 => ⟨t0, _, rfl, .inr (SqT.of upd_same), rfl, rfl, _, rfl, ?_⟩⟩
    have s0 := same_upd q0 (.tup [V.str "InvalidName", V.str "InvalidNumber", V.str "InvalidLimit"])
    generalize (upd H t0 (.tup [V.str "InvalidName", V.str "InvalidNumber", V.str "InvalidLimit"])) = G0 at s0 ⊢
    rw [show inV (V.str "InvalidNumber") [V.str "InvalidName", V.str "InvalidNumber", V.str "InvalidLimit"] = true by decide +kernel]
    refine iteT ?_
    exact ⟨_, rfl, C, dd, fs, _, rfl, hcl, hxf, hat _ (by decide), hd, s0 _ _ hdd, hx, (by show 1 ≤ sizeLine; decide), fun t ht => fin s0 ht rfl⟩
end
end Un
namespace Un
open PySem L2 TL
section
variable {P : Program} {w : World} {K : PySem.W.Frag} {mg : Str → Option Value} {base : Heap}
abbrev whyN : List Str := ["_law_ask", "_law_e"]
theorem scWhy : FnScope whyN ["_law_ask"] (defScope sWhy) := ⟨rfl, rfl, rfl, by decide +kernel, rfl, by decide +kernel, by decide +kernel⟩
/-- what an error must be for `_law_why` to tell it -/
def EWhy (K : PySem.W.Frag) (cs : List Value) (Q : VK) : XK := fun cls d H' => ∃ code due, ErrAt K H' cls d code due ∧ PySem.W.exmAny K cls cs = some true ∧
  ∀ (t t1 : Addr) (H'' : Hp), Same H' H'' → H' t = none → H'' t1 = some (.tup due) → H'' t = some (.tup [.str code, .ref t1]) → Q (.ref t) H''
def TWhy (K : PySem.W.Frag) (cs : List Value) : (XK → Hp → VK → Prop) → Hp → VK → Prop := fun tl H Q => tl (EWhy K cs Q) H fun v H1 => ([.str "", v] : List V).length ≤ sizeLine ∧ ∀ t, H1 t = none → Q (.ref t) (upd H1 t (.tup [.str "", v]))
theorem why_gives {X : Cx} {g ff U M NL : Addr} {cdg : Value} {q : Str} {k : Nat} {fd : FuncData} (hr : Room (k + 1) X.A) (GF : ExR.FnE X.prog X.w X.K X.mg X.base CX0 k ff fd ["_law_e"] (spFieldE X.K)) (bF : Binds X.K fd ["_law_e"] []) (kF : PySem.W.keepIn X.K (.ref ff) = true) (mF : X.mg "_law_field" = some (.ref ff))
    (mU : X.mg "UnopenedError" = some (.ref U)) (mM : X.mg "Missing" = some (.ref M)) (mN : X.mg "NothingLeft" = some (.ref NL)) :
    LamX.GivesTo X whyN "_law_why" (defScope sWhy) g cdg (defBody sWhy) "_law_ask" q (TWhy X.K [.ref U, .ref M, .ref NL]) := by
  intro f c' s H Q tl act hc h
  let Y : Cx := (cxOf C8.CX0 X.prog X.w X.K X.mg X.base whyN "_law_why" (defScope sWhy) g cdg X.A X.stack s H C8.E0).nox
  have hrY : L2H.RoomH k Y.A := L2H.roomH_of (hr.deeper _)
  refine ⟨_, pss_one (ExR.ps_try_as3 (X := Y) (i := 1) (c1 := .ref U) (c2 := .ref M) (c3 := .ref NL)
      (tb := fun W D σ H => ∃ Ech : XK, (∀ cls d σ' H', Ech cls d H' → σ'.length = 2 → W cls d σ' H') ∧ tRet (tTup (tCons (tC (.str "")) (tCons (fun σZ HZ Q => σZ[0]? = some (some (.ref f)) ∧ HZ c' = some (LamX.CodeO c' q) ∧ tl Ech HZ Q) tNil))) D σ H)
      (ts := fun a cls d => tRet (tTup (tCons (ExR.tXe X.K a cls d "code" (tVar 1)) (tCons (fun σ H Q => tCons (tVar 1) tNil σ H fun vs H1 => spFieldE X.K a cls d vs H1 Q E0) tNil))))
      rfl rfl scWhy.nd rfl rfl ⟨by rfl, by decide, .inl mU⟩ ⟨by rfl, by decide, .inl mM⟩ ⟨by rfl, by decide, .inl mN⟩ LamX.takes0 (fun W pn xe tk _ => ?_) (fun a oe cls d pn hz hf => ?_)), ?_⟩
  · refine ⟨fun pins s' σ H' D I h' => ?_⟩
    obtain ⟨Ech, hW, h1⟩ := h'
    have tk' : Takes (Y.tr pn xe) (fun cls d σ H => σ.length = 2 → W cls d σ H) := fun u s' ⟨a, B, sI, pins, σ, H, cls, d, e, I, nb, up, sky, na, os, ag, w⟩ => tk u s' ⟨a, B, sI, pins, σ, H, cls, d, e, I, nb, up, sky, na, os, ag, w I.len⟩
    exact (pss_one (ps_ret (pe_tup (pa_cons pe_str (pa_cons (act (fun cls d σ H => σ.length = 2 → W cls d σ H) pn xe Ech _ _ tk' hW) pa_nil))))).run pins s' σ H' D I h1
  · have B : ExR.Bears (Y.suite a ((a, oe) :: pn)) (a, oe) cls d := ⟨List.mem_cons_self, hz, hf⟩
    exact pss_one (ps_ret (pe_tup (pa_cons (ExR.pe_xe B (pv 1)) (pa_cons (ExR.pe_callE (X := Y.suite a ((a, oe) :: pn)) GF (by exact ⟨hrY.dp, hrY.un⟩) B (by rfl) mF kF bF pass0 (pa_cons (pv 1) pa_nil)) pa_nil))))
  · refine ⟨EWhy X.K [.ref U, .ref M, .ref NL] Q, fun cls d σ' H' he hl => ?_, rfl, hc, h⟩
    obtain ⟨code, due, er, hx, qq⟩ := he
    refine ⟨true, hx, fun _ a ha => ?_, fun z => nomatch z⟩
    obtain ⟨s0, s1, rfl⟩ : ∃ s0 s1, σ' = [s0, s1] := by
      match σ', hl with
      | [s0, s1], _ => exact ⟨s0, s1, rfl⟩
    obtain ⟨C, dd, fs, hcl, hxf, hat, hd, hdd, hcode, hdue⟩ := er.ex
    refine ⟨_, rfl, C, dd, fs, _, rfl, hcl, hxf, hat _ (by decide), hd, hdd, hcode, _, rfl, code, due, rfl, er, fun t1 H1 s1' h0 h1 => ⟨(by show 2 ≤ sizeLine; decide), fun t ht => ?_⟩⟩
    have nt : t1 ≠ t := ne_of_none h1 ht
    exact qq t t1 _ (s1'.trans (same_upd ht _)) (s1'.free ht) (by rw [upd_ne nt]; exact h1) upd_same
end
end Un
namespace Un
open PySem L2 TL
section
variable {P : Program} {w : World} {K : PySem.W.Frag} {mg : Str → Option Value} {base : Heap}
end
end Un
/-! ### a static method off its class; an operator that may raise -/
namespace StaX
open PySem PySem.Spec PyProof.Rows L2
/-- C.m is a staticmethod: its record at p, its def at g -/
structure SMet (K : PySem.W.Frag) (C : Addr) (mc : Value) (m : Str) (p g : Addr) : Prop where
  at_ : PySem.W.findCls K (.ref C) mc m = some (.get (.builtin "staticmethod.__get__") (.ref p) .none (.ref C))
  rc : ∃ rest, PySem.W.recIn K p "staticmethod" = some (.ref g :: rest)
  kp : PySem.W.keepIn K (.ref g) = true
section
variable {X : Cx} {pins : List (Addr × Obj)} {σ : L2.St} {H : Hp} {s : Shared} {C p g : Addr} {mc : Value} {m : Str} {A : Around} {E : Value → Shared → Prop}
theorem getmethsm_ok {pl : Sem Bool} {Q : Value × List Value → Shared → Prop} (I : Inv X pins σ H s) (r : ClX.CRead X.K C mc) (k : SMet X.K C mc m p g)
    (h : ∀ s', Inv X pins σ H s' → Q (.ref g, []) s') : wpAny (model X.prog X.w) A (getMethod (.ref C) m pl) Q E s := by
  obtain ⟨rest, hp⟩ := k.rc
  exact PySem.W.method_cls I.kIn r.ga (PySem.W.cls_bind I.kIn r.rd k.at_ (wpAny_call (PySem.W.sm_get (s := { s with toks := s.toks + 1 }) I.kIn hp (PySem.W.handed_on rfl (h _ (I.tok _))))))
end
def tSM (C : Addr) (sp : Sp) (dvs : List V) (E : XK) (ta : TE) (t : TA) : TE := fun σ H Q => ta σ H fun x H1 => x = .ref C ∧ t σ H1 fun vs H2 => sp (vs ++ dvs) H2 Q E
def tSMK (C : Addr) (n : Nat) (sp : Sp) (gV : List V → List V → List V) (E : XK) (ta : TE) (tk : TA) : TE := fun σ H Q => ta σ H fun x H1 => x = .ref C ∧ tk σ H1 fun zs H2 => zs.length = n ∧ sp (gV [] zs) H2 Q E
section
variable {X : Cx} {CX : CXT} {k : Nat} {C p g : Addr} {mc : Value} {fd : FuncData} {ps ks : List Str} {sp : Sp} {dvs : List V} {ds : List Value} {E : XK} {o e : Expr} {es : List Expr} {kws : List Keyword} {m : Str} {pos apos : Pos} {ta : TE} {t tk : TA} {pl : Sem Bool} {gg : List Value → List Value → List Value} {gV : List V → List V → List V}
theorem pe_smeth (he : PE X o ta) (r : ClX.CRead X.K C mc) (c : SMet X.K C mc m p g) (F : FnOk X.prog X.w X.K X.mg X.base CX k g fd ps sp) (hr : Room k X.A) (hb : Binds X.K fd ps ds) (hd : Vals dvs ds) (hx : Passes CX X E) (ha : PA X (e :: es) t)
    (hst : starEach (e :: es) X.env = (false, eval e X.env) :: starEach es X.env := by rfl) (hpl : (backTo pos (starEach es X.env)).any (·.1) = false := by rfl)
    (ht : eval (.Call (.Attribute o m apos) (e :: es) [] pos) X.env = (do
      let ov ← eval o X.env
      standAt apos.atName
      let (f, first) ← holding [ov] (getMethod ov m pl)
      callWith pos f first (backTo pos (starEach (e :: es) X.env)) (backToKw pos (keywordEach [] X.env))) := by rfl) :
    PE X (.Call (.Attribute o m apos) (e :: es) [] pos) (tSM C sp dvs E ta t) := by
  refine ⟨fun pins s σ H Q I h => ?_⟩
  refine PySem.W.methodCall_KW (pl := pl) (thn (he.run pins s σ H _ I h) fun u s1 ⟨x, H1, I1, rx, ex, q⟩ => ?_) ht
  subst ex
  obtain rfl : u = Value.ref C := rx
  refine getmethsm_ok I1 r c fun s2 I2 => ?_
  refine PySem.W.callWith_K (first := []) (h₀ := X.base) I.ok.mod.kin c.kp (thn (ha.run pos pins s2 σ H1 _ I2 q) fun us s3 ⟨vs, H2, I3, rv, q2⟩ => ⟨I3.kIn, ?_⟩) hst hpl
  exact run_fn (us := us) (vs := vs) F hr hb hd hx I3 rv q2
theorem pe_smethK (he : PE X o ta) (r : ClX.CRead X.K C mc) (c : SMet X.K C mc m p g) (F : FnOk X.prog X.w X.K X.mg X.base CX k g fd ps sp) (hr : Room k X.A) (hb : KBn X.K fd ps 0 ks gg gV) (hx : Passes CX X E) (hkw : PK X kws tk)
    (hall : (backToKw pos (keywordEach kws X.env)).all (·.1.isSome) = true := by rfl) (hks : (backToKw pos (keywordEach kws X.env)).filterMap (·.1) = ks := by rfl)
    (hpl : ((backTo pos (starEach [] X.env)).any (·.1) || (backToKw pos (keywordEach kws X.env)).any (·.1.isNone)) = false := by rfl)
    (ht : eval (.Call (.Attribute o m apos) [] kws pos) X.env = (do
      let ov ← eval o X.env
      standAt apos.atName
      let (f, first) ← holding [ov] (getMethod ov m pl)
      callWith pos f first (backTo pos (starEach [] X.env)) (backToKw pos (keywordEach kws X.env))) := by rfl) :
    PE X (.Call (.Attribute o m apos) [] kws pos) (tSMK C ks.length sp gV E ta tk) := by
  refine ⟨fun pins s σ H Q I h => ?_⟩
  refine PySem.W.methodCall_KW (pl := pl) (thn (he.run pins s σ H _ I h) fun u s1 ⟨x, H1, I1, rx, ex, q⟩ => ?_) ht
  subst ex
  obtain rfl : u = Value.ref C := rx
  refine getmethsm_ok I1 r c fun s2 I2 => ?_
  refine PySem.W.callWith_KW0 (first := []) (h₀ := X.base) I.ok.mod.kin c.kp hall ?_ hpl
  refine thn (hkw.run pos pins s2 σ H1 _ I2 q) fun ws s3 ⟨zs, H2, I3, rz, l1, q2⟩ => ⟨I3.kIn, ?_⟩
  rw [hks]
  exact run_fnN (us := []) (vs := []) F hr hb hx I3 .nil rz rfl l1 q2
end
section
variable {X : Cx} {CX : CXT} {k : Nat} {C f : Addr} {fd : FuncData} {ps : List Str} {sp : Sp} {op : Operator} {m : Str} {E : XK}
theorem op_binX (M : Meth X.K C m f) (F : FnOk X.prog X.w X.K X.mg X.base CX k f fd ps sp) (b : Binds X.K fd ps []) (O : BinO.OpK X.K C op.info.2 m) (hr : Room k X.A) (hx : Passes CX X E) :
    OpR X (binaryOp op) (fun x y H Q => ∃ a dx fs i, x = .ref a ∧ y = .int i ∧ H a = some (.ins C dx fs) ∧ sp [.ref a, .int i] H Q E) := by
  intro pins s σ H x y v u Q I rx ry h
  have hs : BinO.Has X.K C op.info.2 f := ⟨O.mro, by rw [← O.eqm]; exact M.at_, M.fn⟩
  obtain ⟨a, dx, fs, i, rfl, rfl, ea, q⟩ := h
  obtain ⟨ox, od, J, _⟩ := StX.insC_at I (.inr ⟨dx, fs, ea⟩)
  cases rx
  have ry' := ry
  obtain ⟨t, rfl⟩ := ry'
  obtain ⟨ri, li⟩ := O.li
  refine BinO.op_of1 (BinO.bin1_int I.kIn J hs O.refl O.fi li ?_)
  refine wpAny_mono (run_fn (us := [.ref a, .int i t]) (vs := [.ref a, .int i]) F hr b .nil hx I (.cons rfl (.cons ry .nil)) (by simpa using q)) (fun r s' hu => ?_) fun e s' he => he
  obtain ⟨z, H', I', rv, q'⟩ := hu
  exact ⟨BinO.rel_told rv, z, H', I', rv, q'⟩
end
end StaX
namespace Un
section
end
end Un
namespace Un
open PySem L2 TL
section
variable {P : Program} {w : World} {K : PySem.W.Frag} {mg : Str → Option Value} {base : Heap}
/-! ### late, early -/
open XV
abbrev sDelayed : Stmt := top 32
abbrev sHastened : Stmt := top 33
abbrev sS_lsh : Stmt := inClass sSeries 14
abbrev sS_rsh : Stmt := inClass sSeries 15
abbrev sS_delay : Stmt := inClass sSeries 1
abbrev zs (n : Nat) (p : SerM.Po) : SerM.Po := List.replicate n 0 ++ p
theorem ev_rep0 (n : Nat) (x : Int) : SerM.ev (List.replicate n 0) x = 0 := by
  induction n with
  | zero => rfl
  | succ n ih =>
    rw [List.replicate_succ]
    show 0 + x * SerM.ev (List.replicate n 0) x = 0
    rw [ih]; omega
theorem ev_zs (n : Nat) (p : SerM.Po) (x : Int) : SerM.ev (zs n p) x = x ^ n * SerM.ev p x := by
  rw [SerM.ev_app, ev_rep0, List.length_replicate, Int.zero_add]
theorem co_zs (n : Nat) (p : SerM.Po) (i : Nat) : SerM.co (zs n p) i = if i < n then 0 else SerM.co p (i - n) := by
  unfold SerM.co
  rw [List.getD_eq_getElem?_getD, List.getD_eq_getElem?_getD, List.getElem?_append, List.length_replicate]
  split
  · rename_i h
    rw [List.getElem?_replicate, if_pos h]; rfl
  · rfl
theorem co_drop (n : Nat) (p : SerM.Po) (i : Nat) : SerM.co (p.drop n) i = SerM.co p (n + i) := by
  unfold SerM.co
  rw [List.getD_eq_getElem?_getD, List.getD_eq_getElem?_getD, List.getElem?_drop]
theorem ev_drop {n : Nat} {p : SerM.Po} (h : ∀ i, i < n → SerM.co p i = 0) (x : Int) : SerM.ev p x = x ^ n * SerM.ev (p.drop n) x := by
  rw [← ev_zs]
  refine SerM.ev_of_co (fun i => ?_) x
  rw [co_zs]
  split
  · rename_i hi; exact h i hi
  · rename_i hi
    rw [co_drop]; congr 1; omega
theorem zs_bd {n A : Nat} {p : SerM.Po} (h : ∀ i, (SerM.co p i).natAbs ≤ A) (i : Nat) : (SerM.co (zs n p) i).natAbs ≤ A := by
  rw [co_zs]
  split
  · exact Nat.zero_le _
  · exact h _
theorem ev_one' (x : Int) : SerM.ev [1] x = 1 := by show (1 : Int) + x * 0 = 1; omega
/-- what the program's rows of a made series must keep -/
structure Goal (H : Hp) (C : Addr) (P2 Q2 : SerM.Po) (z2 : Sz) (m2 A2 : Nat) (Q : VK) : Prop where
  f : Frac P2 Q2 z2
  n : FitN z2 m2 A2
  q : ∀ b H', Same H H' → Val H' C b P2 Q2 z2 → Q (.ref b) H'
theorem Goal.same {H H1 : Hp} {C : Addr} {P2 Q2 : SerM.Po} {z2 : Sz} {m2 A2 : Nat} {Q : VK} (g : Goal H C P2 Q2 z2 m2 A2 Q) (s : Same H H1) : Goal H1 C P2 Q2 z2 m2 A2 Q :=
  ⟨g.f, g.n, fun b H' s' V' => g.q b H' (s.trans s') V'⟩
def LateIn (H : Hp) (C a : Addr) (n : Nat) (Q : VK) : Prop := ∃ (P1 Q1 P2 Q2 : SerM.Po) (z z2 : Sz) (m2 A2 : Nat), Val H C a P1 Q1 z ∧ FitN z z.m (SerM.fb z.A z.m) ∧ n ≤ 1000 ∧ n + z.m ≤ m2 ∧ SerM.fb z.A z.m ≤ A2 ∧ Goal H C P2 Q2 z2 m2 A2 Q ∧ ∀ x, SerM.ev P2 x * SerM.ev Q1 x = x ^ n * SerM.ev P1 x * SerM.ev Q2 x
def EarlyIn (H : Hp) (C a : Addr) (n : Nat) (Q : VK) : Prop := ∃ (P1 Q1 P2 Q2 : SerM.Po) (z z2 : Sz) (m2 A2 : Nat), Val H C a P1 Q1 z ∧ FitN z z.m (SerM.fb z.A z.m) ∧ n ≤ 1000 ∧ z.m ≤ m2 ∧ SerM.fb z.A z.m ≤ A2 ∧ (∀ i, i < n → SerM.co P1 i = 0) ∧ Goal H C P2 Q2 z2 m2 A2 Q ∧ ∀ x, x ^ n * SerM.ev P2 x * SerM.ev Q1 x = SerM.ev P1 x * SerM.ev Q2 x
theorem LateIn.same {H H1 : Hp} {C a : Addr} {n : Nat} {Q : VK} (h : LateIn H C a n Q) (s : Same H H1) : LateIn H1 C a n Q := by
  obtain ⟨P1, Q1, P2, Q2, z, z2, m2, A2, V1, N, h1, h2, h3, G, e⟩ := h
  exact ⟨P1, Q1, P2, Q2, z, z2, m2, A2, V1.same s, N, h1, h2, h3, G.same s, e⟩
theorem EarlyIn.same {H H1 : Hp} {C a : Addr} {n : Nat} {Q : VK} (h : EarlyIn H C a n Q) (s : Same H H1) : EarlyIn H1 C a n Q := by
  obtain ⟨P1, Q1, P2, Q2, z, z2, m2, A2, V1, N, h1, h2, h3, h4, G, e⟩ := h
  exact ⟨P1, Q1, P2, Q2, z, z2, m2, A2, V1.same s, N, h1, h2, h3, h4, G.same s, e⟩
def spLate (C : Addr) : Sp := fun vs H Q _ => ∃ (a : Addr) (n : Nat), vs = [.ref a, .int n] ∧ LateIn H C a n Q
def spEarly (C : Addr) : Sp := fun vs H Q _ => ∃ (a : Addr) (n : Nat), vs = [.ref a, .int n] ∧ EarlyIn H C a n Q
/-- >>: early, or too early -/
def spRsh (C CE : Addr) : Sp := fun vs H Q E => ∃ (a : Addr) (n : Nat), vs = [.ref a, .int n] ∧ n ≤ 1000 ∧ (EarlyIn H C a n Q ∨ ∃ (P1 Q1 : SerM.Po) (z : Sz) (k : Nat), Val H C a P1 Q1 z ∧ k < n ∧ OrdV P1 (.int k) ∧ XkE CE [("order", .int k), ("code", .str "TooEarly")] H E)
def spDly (C : Addr) : Sp := fun vs H Q _ => ∃ (n : Nat) (z2 : Sz) (m2 A2 : Nat), vs = [.int n] ∧ n ≤ 1000 ∧ n + 1 ≤ m2 ∧ 1 ≤ A2 ∧ Goal H C (zs n [1]) [1] z2 m2 A2 Q
theorem scDelayed : FnScope ["series", "beats"] ["series", "beats"] (defScope sDelayed) := ⟨rfl, rfl, rfl, by decide +kernel, rfl, by decide +kernel, by decide +kernel⟩
theorem scHastened : FnScope ["series", "beats"] ["series", "beats"] (defScope sHastened) := ⟨rfl, rfl, rfl, by decide +kernel, rfl, by decide +kernel, by decide +kernel⟩
theorem scS_lsh : FnScope ["self", "other"] ["self", "other"] (defScope sS_lsh) := ⟨rfl, rfl, rfl, by decide +kernel, rfl, by decide +kernel, by decide +kernel⟩
theorem scS_rsh : FnScope ["self", "other"] ["self", "other"] (defScope sS_rsh) := ⟨rfl, rfl, rfl, by decide +kernel, rfl, by decide +kernel, by decide +kernel⟩
theorem scS_delay : FnScope ["d"] ["d"] (defScope sS_delay) := ⟨rfl, rfl, rfl, by decide +kernel, rfl, by decide +kernel, by decide +kernel⟩
theorem cancel1 {Q1 p q P' Q' : SerM.Po} (h1 : SerM.ev Q1 0 = 1) (h : ∀ x, (SerM.ev p x * SerM.ev Q' x) * SerM.ev Q1 x = (SerM.ev P' x * SerM.ev q x) * SerM.ev Q1 x) : ∀ x, SerM.ev p x * SerM.ev Q' x = SerM.ev P' x * SerM.ev q x :=
  cancel2 h1 h1 fun x => by have := h x; grind
theorem ok_delayed {f C fI f1 f2 : Addr} {fd dI e1 e2 : FuncData} {d : V} {dv : List Value} (F : Fun K "delayed" "delayed" sDelayed f fd) (C' : SerC K C) (M : MakS P w K mg base C fI dI d dv) (MT : Mt P w K mg base C 1 f1 e1 "top" ["self"] (spTopM C)) (MB : Mt P w K mg base C 1 f2 e2 "bottom" ["self"] (spBotM C)) : FnOk P w K mg base CX0 7 f fd ["series", "beats"] (spLate C) := by
  refine F.ok scDelayed (fun vs H Q E h => ?_) (fun cdv A outer s H vs Q E hr h => ?_)
  · obtain ⟨a, n, rfl, _⟩ := h
    rfl
  obtain ⟨a, n, rfl, P1, Q1, P2, Q2, z, z2, m2, A2, V1, N, hn, hm, hA, G, e⟩ := h
  obtain ⟨mkS, okS, mC, bS2, bS1, dS, rowS⟩ := M
  have hsz : 1000000 < sizeLine := by decide
  have zm := N.m
  refine ⟨_, (pss_one (ps_ret (pe_make mkS okS (hr.mono (by decide)) (by rfl) mC bS2 .nil pass0 (pa_cons (pe_op op_cat (pe_op op_rep (pe_lst (pa_cons pe_int pa_nil)) (pv 1)) (pe_meth0 (pv 0) C'.cl MT.mt MT.ok (hr.mono (by decide)) MT.b .nil pass0)) (pa_cons (pe_meth0 (pv 0) C'.cl MB.mt MB.ok (hr.mono (by decide)) MB.b .nil pass0) pa_nil))))), ?_⟩
  obtain ⟨dx, x, y, o, u, v, R⟩ := V1.rows
  refine ⟨(by show 1 ≤ sizeLine; decide), fun l1 hl1 => ?_⟩
  have s1 := same_upd hl1 (.lst [V.int 0])
  have g1 : upd H l1 (.lst [V.int 0]) l1 = some (.lst [V.int 0]) := upd_same
  have R := R.same s1
  generalize upd H l1 (.lst [V.int 0]) = H1 at s1 g1 R ⊢
  refine ⟨_, rfl, l1, _, _, rfl, rfl, g1, (by omega), (by omega), (by show 1 * _ ≤ _; omega), fun l2 hl2 => ?_⟩
  have en : ((n : Int)).toNat = n := Int.toNat_natCast n
  rw [en, rep_one]
  have s2 := same_upd hl2 (.lst (List.replicate n (V.int 0)))
  have g2 : upd H1 l2 (.lst (List.replicate n (V.int 0))) l2 = some (.lst (List.replicate n (V.int 0))) := upd_same
  have R := R.same s2
  generalize upd H1 l2 (.lst (List.replicate n (V.int 0))) = H2 at s2 g2 R ⊢
  have ul := R.ul
  have vl := R.vl
  refine ⟨_, rfl, a, dx, _, rfl, R.ha, rfl, a, u, v, rfl, ⟨dx, x, y, o, R.ha, R.hx, R.hy, R.ord⟩, fun l3 hl3 => ?_⟩
  have s3 := same_upd hl3 (.lst (iv u))
  have g3 : upd H2 l3 (.lst (iv u)) l3 = some (.lst (iv u)) := upd_same
  have g2 := s3 _ _ g2
  have R := R.same s3
  generalize upd H2 l3 (.lst (iv u)) = H3 at s3 g2 g3 R ⊢
  refine ⟨l2, l3, _, _, rfl, rfl, g2, g3, (by rw [List.length_map, List.length_replicate]; omega), fun l4 hl4 => ?_⟩
  have em : List.replicate n (V.int 0) ++ iv u = iv (zs n u) := by
    show _ = List.map V.int (_ ++ _)
    rw [List.map_append, List.map_replicate]
  rw [em]
  have s4 := same_upd hl4 (.lst (iv (zs n u)))
  have g4 : upd H3 l4 (.lst (iv (zs n u))) l4 = some (.lst (iv (zs n u))) := upd_same
  have R := R.same s4
  generalize upd H3 l4 (.lst (iv (zs n u))) = H4 at s4 g4 R ⊢
  refine ⟨_, rfl, a, dx, _, rfl, R.ha, rfl, a, u, v, rfl, ⟨dx, x, y, o, R.ha, R.hx, R.hy, R.ord⟩, fun l5 hl5 => ?_⟩
  have s5 := same_upd hl5 (.lst (iv v))
  have g5 : upd H4 l5 (.lst (iv v)) l5 = some (.lst (iv v)) := upd_same
  have g4 := s5 _ _ g4
  generalize upd H4 l5 (.lst (iv v)) = H5 at s5 g5 g4 ⊢
  have s15 := s1.trans (s2.trans (s3.trans (s4.trans s5)))
  intro sa sd hsa hsd sne
  refine ser_madeV (C := C) hsa hsd sne (RowV.lst g4) (RowV.lst g5) G.f G.n ?_ ?_ ?_ ?_ R.red.v1 (cancel1 V1.1.q1 fun x => ?_) fun H6 s6 V' => G.q sa H6 (s15.trans s6) V'
  · rw [List.length_append, List.length_replicate]; omega
  · omega
  · exact fun i => Nat.le_trans (zs_bd R.uc i) hA
  · exact fun i => Nat.le_trans (R.vc i) hA
  · have h1 := R.red.eq x
    have h2 := e x
    rw [ev_zs]
    grind
theorem ok_hastened {f C fI f1 f2 : Addr} {fd dI e1 e2 : FuncData} {d : V} {dv : List Value} (F : Fun K "hastened" "hastened" sHastened f fd) (C' : SerC K C) (M : MakS P w K mg base C fI dI d dv) (MT : Mt P w K mg base C 1 f1 e1 "top" ["self"] (spTopM C)) (MB : Mt P w K mg base C 1 f2 e2 "bottom" ["self"] (spBotM C)) : FnOk P w K mg base CX0 7 f fd ["series", "beats"] (spEarly C) := by
  refine F.ok scHastened (fun vs H Q E h => ?_) (fun cdv A outer s H vs Q E hr h => ?_)
  · obtain ⟨a, n, rfl, _⟩ := h
    rfl
  obtain ⟨a, n, rfl, P1, Q1, P2, Q2, z, z2, m2, A2, V1, N, hn, hm, hA, lo, G, e⟩ := h
  obtain ⟨mkS, okS, mC, bS2, bS1, dS, rowS⟩ := M
  have hsz : 1000000 < sizeLine := by decide
  have zm := N.m
  refine ⟨_, (pss_one (ps_ret (pe_make mkS okS (hr.mono (by decide)) (by rfl) mC bS2 .nil pass0 (pa_cons (pe_slice sl_list (pe_meth0 (pv 0) C'.cl MT.mt MT.ok (hr.mono (by decide)) MT.b .nil pass0) (po_some (pv 1)) po_none) (pa_cons (pe_meth0 (pv 0) C'.cl MB.mt MB.ok (hr.mono (by decide)) MB.b .nil pass0) pa_nil))))), ?_⟩
  obtain ⟨dx, x, y, o, u, v, R⟩ := V1.rows
  have ul := R.ul
  have vl := R.vl
  have lu : ∀ i, i < n → SerM.co u i = 0 := low_zero V1.1.q1 R.red.eq lo
  refine ⟨_, rfl, a, dx, _, rfl, R.ha, rfl, a, u, v, rfl, ⟨dx, x, y, o, R.ha, R.hx, R.hy, R.ord⟩, fun l3 hl3 => ?_⟩
  have s3 := same_upd hl3 (.lst (iv u))
  have g3 : upd H l3 (.lst (iv u)) l3 = some (.lst (iv u)) := upd_same
  have R := R.same s3
  generalize upd H l3 (.lst (iv u)) = H3 at s3 g3 R ⊢
  refine ⟨_, rfl, _, rfl, l3, _, rfl, SqL.of g3, fun l4 hl4 => ?_⟩
  have ecut : cutV (iv u) (some (n : Int)) none = iv (u.drop n) := by
    unfold cutV
    have e2 : HT.sIx (iv u).length (iv u).length none = (iv u).length := rfl
    rw [HT.sIx_nat, e2]
    by_cases hh : n ≤ (iv u).length
    · rw [Nat.min_eq_left hh, List.take_of_length_le (by rw [List.length_drop]; omega)]
      exact List.map_drop.symm
    · have h1 : u.drop n = [] := List.drop_eq_nil_of_le (by rw [List.length_map] at hh; omega)
      rw [h1, Nat.min_eq_right (by omega), List.drop_eq_nil_of_le (Nat.le_refl _)]
      simp [iv]
  rw [ecut]
  have s4 := same_upd hl4 (.lst (iv (u.drop n)))
  have g4 : upd H3 l4 (.lst (iv (u.drop n))) l4 = some (.lst (iv (u.drop n))) := upd_same
  have R := R.same s4
  generalize upd H3 l4 (.lst (iv (u.drop n))) = H4 at s4 g4 R ⊢
  refine ⟨_, rfl, a, dx, _, rfl, R.ha, rfl, a, u, v, rfl, ⟨dx, x, y, o, R.ha, R.hx, R.hy, R.ord⟩, fun l5 hl5 => ?_⟩
  have s5 := same_upd hl5 (.lst (iv v))
  have g5 : upd H4 l5 (.lst (iv v)) l5 = some (.lst (iv v)) := upd_same
  have g4 := s5 _ _ g4
  generalize upd H4 l5 (.lst (iv v)) = H5 at s5 g5 g4 ⊢
  have s15 := s3.trans (s4.trans s5)
  intro sa sd hsa hsd sne
  refine ser_madeV (C := C) hsa hsd sne (RowV.lst g4) (RowV.lst g5) G.f G.n ?_ ?_ ?_ ?_ R.red.v1 ?_ fun H6 s6 V' => G.q sa H6 (s15.trans s6) V'
  · rw [List.length_drop]; omega
  · omega
  · intro i
    rw [co_drop]; exact Nat.le_trans (R.uc _) hA
  · exact fun i => Nat.le_trans (R.vc i) hA
  · have key : ∀ x, SerM.ev (zs n (u.drop n)) x * SerM.ev Q2 x = SerM.ev (zs n P2) x * SerM.ev v x := cancel1 V1.1.q1 fun x => by
      have h1 := R.red.eq x
      have h2 := e x
      have h3 := ev_drop lu x
      rw [ev_zs, ev_zs, ← h3]
      grind
    have hz : SerM.NZ (zs n [1]) := ⟨n, by rw [co_zs, if_neg (by omega), Nat.sub_self]; decide⟩
    have := SerM.ev_cancel (a := SerM.mul (u.drop n) Q2) (b := SerM.mul P2 v) hz fun x => by
      have h4 := key x
      rw [ev_zs, ev_zs] at h4
      rw [SerM.ev_mul, SerM.ev_mul, ev_zs, ev_one']
      grind
    intro x
    have h5 := this x
    rw [SerM.ev_mul, SerM.ev_mul] at h5
    exact h5
theorem ok_lsh {f C g1 g2 : Addr} {fd d1 d2 : FuncData} {tb : Tok} (F : Fun K "__lshift__" "Series.__lshift__" sS_lsh f fd) (mb : mg "MOST_BEATS" = some (.int 1000 tb)) (GN : Df P w K mg base 2 g1 d1 "is_number" ["value", "least", "most"] (spNumber K)) (GD : Df P w K mg base 7 g2 d2 "delayed" ["series", "beats"] (spLate C)) : FnOk P w K mg base CX0 8 f fd ["self", "other"] (spLate C) := by
  refine F.ok scS_lsh (fun vs H Q E h => ?_) (fun cdv A outer s H vs Q E hr h => ?_)
  · obtain ⟨a, n, rfl, _⟩ := h
    rfl
  obtain ⟨a, n, rfl, L⟩ := h
  have hn : n ≤ 1000 := by obtain ⟨_, _, _, _, _, _, _, _, _, _, h, _⟩ := L; exact h
  refine ⟨_, (pss_cons (ps_if (pt_not (pt_val (pe_call GN.ok (hr.mono (by decide)) (by rfl) GN.m GN.kp GN.b .nil pass0 (pa_cons (pv 1) (pa_cons pe_int (pa_cons (pe_glob (v := .int 1000) (by rfl) mb ⟨_, rfl⟩) pa_nil))))))
 pss_never
 pss_nil)
 (pss_one (ps_ret (pe_call GD.ok (hr.mono (by decide)) (by rfl) GD.m GD.kp GD.b .nil pass0 (pa_cons (pv 0) (pa_cons (pv 1) pa_nil)))))), ?_⟩
  refine ⟨_, rfl, _, 0, 1000, rfl, .inl ⟨_, rfl, ?_⟩⟩
  rw [decide_eq_true (show (0 : Int) ≤ (n : Int) by omega), decide_eq_true (show (n : Int) ≤ 1000 by omega)]
  refine ⟨_, rfl, iteF ?_⟩
  exact ⟨_, rfl, _, rfl, a, n, rfl, L⟩
theorem ok_rsh {f C CE g1 g2 fU : Addr} {fd d1 d2 dU : FuncData} {gU : List Value → List Value → List Value} {tb : Tok} (F : Fun K "__rshift__" "Series.__rshift__" sS_rsh f fd) (C' : SerC K C) (XU : Xr P w K mg base CE 1 fU dU "TooEarly" ["self", "order"] (spI1 CE "TooEarly" "order") gU) (mb : mg "MOST_BEATS" = some (.int 1000 tb)) (GN : Df P w K mg base 2 g1 d1 "is_number" ["value", "least", "most"] (spNumber K)) (GH : Df P w K mg base 7 g2 d2 "hastened" ["series", "beats"] (spEarly C)) : FnOk P w K mg base (L2.CX P w) 8 f fd ["self", "other"] (spRsh C CE) := by
  refine F.okX scS_rsh (fun vs H Q E h => ?_) (fun cdv A outer s H vs Q E hr h => ?_)
  · obtain ⟨a, n, rfl, _⟩ := h
    rfl
  obtain ⟨a, n, rfl, hn, h⟩ := h
  refine ⟨_, (pss_cons (ps_if (pt_not (pt_val (pe_call GN.ok (hr.mono (by decide)) (by rfl) GN.m GN.kp GN.b .nil pass0 (pa_cons (pv 1) (pa_cons pe_int (pa_cons (pe_glob (v := .int 1000) (by rfl) mb ⟨_, rfl⟩) pa_nil))))))
 pss_never
 pss_nil)
 (pss_cons (ps_if (PW.pt (pw_and (pt_cmpR op_notN (pe_fld (pv 0) rfl) pe_non (nomark _)) (pw_and1 (pt_cmpR op_lt (pe_fld (pv 0) rfl) (pv 1) (nomark _)))))
 (pss_one (ps_raise rfl (takes_of rfl rfl rfl rfl) (ExR.pmk_exo rfl (pe_mkG XU.x (hr.mono (by decide)) (by rfl) XU.kb (pa_cons (pe_fld (pv 0) rfl) pa_nil)))))
 pss_nil)
 (pss_one (ps_ret (pe_call GH.ok (hr.mono (by decide)) (by rfl) GH.m GH.kp GH.b .nil pass0 (pa_cons (pv 0) (pa_cons (pv 1) pa_nil))))))), ?_⟩
  refine ⟨_, rfl, _, 0, 1000, rfl, .inl ⟨_, rfl, ?_⟩⟩
  rw [decide_eq_true (show (0 : Int) ≤ (n : Int) by omega), decide_eq_true (show (n : Int) ≤ 1000 by omega)]
  refine ⟨_, rfl, iteF ?_⟩
  rcases h with L | ⟨P1, Q1, z, k, V1, hk, ho, q⟩
  · obtain ⟨P1, Q1, P2, Q2, z, z2, m2, A2, V1, N, h1, h2, h3, lo, G, e⟩ := id L
    obtain ⟨dx, x, y, o, u, v, R⟩ := V1.rows
    have lu : ∀ i, i < n → SerM.co u i = 0 := low_zero V1.1.q1 R.red.eq lo
    have fin := (⟨_, rfl, _, rfl, a, n, rfl, L⟩ : ∃ x, some (some (V.ref a)) = some (some x) ∧ ∃ y, some (some (V.int (n : Int))) = some (some y) ∧ spEarly C [x, y] H Q E0)
    have ho := R.ord
    have hak := R.ha
    rcases ho with ⟨k, k1, k2, k3, rfl⟩ | ⟨hz, rfl⟩
    · refine ⟨_, rfl, a, C, dx, _, _, rfl, hak, C'.cl, C'.o, rfl, rfl, ?_⟩
      rw [decide_eq_false (fun e => by cases e)]
      refine ⟨_, rfl, iteT ?_⟩
      refine ⟨_, rfl, a, C, dx, _, _, rfl, hak, C'.cl, C'.o, rfl, _, rfl, _, _, rfl, rfl, _, rfl, ?_⟩
      rw [decide_eq_false (show ¬ (k : Int) < (n : Int) by
        intro hh
        exact k2 (lu k (by omega)))]
      refine iteF ?_
      exact ⟨_, rfl, _, rfl, a, n, rfl, L⟩
    · refine ⟨_, rfl, a, C, dx, _, _, rfl, hak, C'.cl, C'.o, rfl, rfl, ?_⟩
      rw [decide_eq_true rfl]
      refine ⟨_, rfl, iteF ?_⟩
      exact ⟨_, rfl, _, rfl, a, n, rfl, L⟩
  · obtain ⟨dx, x, y, o, u, v, R⟩ := V1.rows
    obtain rfl : o = .int k := ord_eq V1.1.q1 R.red.v1 R.red.eq R.ord ho
    refine ⟨_, rfl, a, C, dx, _, _, rfl, R.ha, C'.cl, C'.o, rfl, rfl, ?_⟩
    rw [decide_eq_false (fun e => by cases e)]
    refine ⟨_, rfl, iteT ?_⟩
    refine ⟨_, rfl, a, C, dx, _, _, rfl, R.ha, C'.cl, C'.o, rfl, _, rfl, _, _, rfl, rfl, _, rfl, ?_⟩
    rw [decide_eq_true (show (k : Int) < (n : Int) by omega)]
    refine iteT ?_
    exact ⟨_, rfl, a, C, dx, _, _, rfl, R.ha, C'.cl, C'.o, rfl, rfl, rfl, (by decide), fun a ha => mk_raise1 XU.x.T rfl (Same.refl _) ha q⟩
theorem ok_delay {f C fI g1 : Addr} {fd dI d1 : FuncData} {d : V} {dv : List Value} {tb : Tok} (F : Fun K "delay" "Series.delay" sS_delay f fd) (M : MakS P w K mg base C fI dI d dv) (mb : mg "MOST_BEATS" = some (.int 1000 tb)) (GN : Df P w K mg base 2 g1 d1 "is_number" ["value", "least", "most"] (spNumber K)) : FnOk P w K mg base CX0 7 f fd ["d"] (spDly C) := by
  refine F.ok scS_delay (fun vs H Q E h => ?_) (fun cdv A outer s H vs Q E hr h => ?_)
  · obtain ⟨n, z2, m2, A2, rfl, _⟩ := h
    rfl
  obtain ⟨n, z2, m2, A2, rfl, hn, hm, hA, G⟩ := h
  obtain ⟨mkS, okS, mC, bS2, bS1, dS, rowS⟩ := M
  have hsz : 1000000 < sizeLine := by decide
  refine ⟨_, (pss_cons (ps_if (pt_not (pt_val (pe_call GN.ok (hr.mono (by decide)) (by rfl) GN.m GN.kp GN.b .nil pass0 (pa_cons (pv 0) (pa_cons pe_int (pa_cons (pe_glob (v := .int 1000) (by rfl) mb ⟨_, rfl⟩) pa_nil))))))
 pss_never
 pss_nil)
 (pss_one (ps_ret (pe_make mkS okS (hr.mono (by decide)) (by rfl) mC bS1 dS pass0 (pa_cons (pe_op op_cat (pe_op op_rep (pe_lst (pa_cons pe_int pa_nil)) (pv 0)) (pe_lst (pa_cons pe_int pa_nil))) pa_nil))))), ?_⟩
  refine ⟨_, rfl, _, 0, 1000, rfl, .inl ⟨_, rfl, ?_⟩⟩
  rw [decide_eq_true (show (0 : Int) ≤ (n : Int) by omega), decide_eq_true (show (n : Int) ≤ 1000 by omega)]
  refine ⟨_, rfl, iteF ?_⟩
  refine ⟨(by show 1 ≤ sizeLine; decide), fun l1 hl1 => ?_⟩
  have s1 := same_upd hl1 (.lst [V.int 0])
  have g1 : upd H l1 (.lst [V.int 0]) l1 = some (.lst [V.int 0]) := upd_same
  generalize upd H l1 (.lst [V.int 0]) = H1 at s1 g1 ⊢
  refine ⟨_, rfl, l1, _, _, rfl, rfl, g1, (by omega), (by omega), (by show 1 * _ ≤ _; omega), fun l2 hl2 => ?_⟩
  rw [Int.toNat_natCast n, rep_one]
  have s2 := same_upd hl2 (.lst (List.replicate n (V.int 0)))
  have g2 : upd H1 l2 (.lst (List.replicate n (V.int 0))) l2 = some (.lst (List.replicate n (V.int 0))) := upd_same
  generalize upd H1 l2 (.lst (List.replicate n (V.int 0))) = H2 at s2 g2 ⊢
  refine ⟨(by show 1 ≤ sizeLine; decide), fun l3 hl3 => ?_⟩
  have s3 := same_upd hl3 (.lst [V.int 1])
  have g3 : upd H2 l3 (.lst [V.int 1]) l3 = some (.lst [V.int 1]) := upd_same
  have g2 := s3 _ _ g2
  generalize upd H2 l3 (.lst [V.int 1]) = H3 at s3 g2 g3 ⊢
  refine ⟨l2, l3, _, _, rfl, rfl, g2, g3, (by rw [List.length_replicate]; show n + 1 ≤ _; omega), fun l4 hl4 => ?_⟩
  have em : List.replicate n (V.int 0) ++ [V.int 1] = iv (zs n [1]) := by
    show _ = List.map V.int (_ ++ _)
    rw [List.map_append, List.map_replicate]; rfl
  rw [em]
  have s4 := same_upd hl4 (.lst (iv (zs n [1])))
  have g4 : upd H3 l4 (.lst (iv (zs n [1]))) l4 = some (.lst (iv (zs n [1]))) := upd_same
  generalize upd H3 l4 (.lst (iv (zs n [1]))) = H4 at s4 g4 ⊢
  have s14 := s1.trans (s2.trans (s3.trans s4))
  have one1 : ∀ i, (SerM.co [1] i).natAbs ≤ 1 := fun i => by
    cases i with
    | zero => decide
    | succ i => rw [SerM.co_len (by show 1 ≤ i + 1; omega)]; decide
  intro sa sd hsa hsd sne
  refine ser_madeV (C := C) hsa hsd sne (RowV.lst g4) (rowS _) G.f G.n ?_ (by show 1 ≤ m2; omega) ?_ ?_ (ev_one' 0) (fun _ => rfl) fun H6 s6 V' => G.q sa H6 (s14.trans s6) V'
  · rw [List.length_append, List.length_replicate]; show n + 1 ≤ m2; omega
  · exact fun i => Nat.le_trans (zs_bd one1 i) hA
  · exact fun i => Nat.le_trans (one1 i) hA
end
end Un
namespace Un
open PySem L2 TL
section
variable {P : Program} {w : World} {K : PySem.W.Frag} {mg : Str → Option Value} {base : Heap}
/-! ### is_row of any value -/
open XV
def IntS (K : PySem.W.Frag) (H : Hp) (y : V) (b : Bool) : Prop := ∃ (t : String) (bi bb : Bool), (∀ H', Same H H' → TyX K H' y (.type t)) ∧ kitB t "int" = some bi ∧ kitB t "bool" = some bb ∧ b = (bi && !bb)
theorem IntS.same {H H' : Hp} {y : V} {b : Bool} (h : IntS K H y b) (s : Same H H') : IntS K H' y b := by
  obtain ⟨t, bi, bb, h1, h2⟩ := h
  exact ⟨t, bi, bb, fun H2 s2 => h1 H2 (s.trans s2), h2⟩
/-- a list of any items: which are whole numbers -/
structure RowA (K : PySem.W.Frag) (H : Hp) (a : Addr) (ys : List V) (bs : List Bool) : Prop where
  at_ : H a = some (.lst ys)
  len : bs.length = ys.length
  le : ys.length ≤ 1000
  it : ∀ (i : Nat) (y : V) (b : Bool), ys[i]? = some y → bs[i]? = some b → IntS K H y b
theorem RowA.same {H H' : Hp} {a : Addr} {ys : List V} {bs : List Bool} (h : RowA K H a ys bs) (s : Same H H') : RowA K H' a ys bs :=
  ⟨s _ _ h.at_, h.len, h.le, fun i y b h1 h2 => (h.it i y b h1 h2).same s⟩
/-- no list and no tuple -/
def NoSeq (K : PySem.W.Frag) (H : Hp) (x : V) : Prop := ∃ t : String, (∀ H', Same H H' → TyX K H' x (.type t)) ∧ kitB t "list" = some false ∧ kitB t "tuple" = some false
theorem NoSeq.same {H H' : Hp} {x : V} (h : NoSeq K H x) (s : Same H H') : NoSeq K H' x := by
  obtain ⟨t, h1, h2⟩ := h
  exact ⟨t, fun H2 s2 => h1 H2 (s.trans s2), h2⟩
/-- what is_row says no to -/
def NoRow (K : PySem.W.Frag) (H : Hp) (x : V) : Prop := NoSeq K H x ∨ ∃ (a : Addr) (ys : List V) (bs : List Bool), x = .ref a ∧ RowA K H a ys bs ∧ bs.all id = false
theorem NoRow.same {H H' : Hp} {x : V} (h : NoRow K H x) (s : Same H H') : NoRow K H' x := by
  rcases h with h | ⟨a, ys, bs, rfl, h, e⟩
  · exact .inl (h.same s)
  · exact .inr ⟨a, ys, bs, rfl, h.same s, e⟩
def spIsRowN (K : PySem.W.Frag) : Sp := fun vs H Q _ => ∃ x : V, vs = [x] ∧ NoRow K H x ∧ ∀ H', Same H H' → Q (.bl false) H'
theorem ok_isRowN {f g : Addr} {fd gd : FuncData} (F : Fun K "is_row" "is_row" sIsRow f fd) (T : SerT mg) (GI : Df P w K mg base 1 g gd "is_integer" ["value"] (spInteger K)) : FnOk P w K mg base CX0 2 f fd ["value"] (spIsRowN K) := by
  refine F.ok scIsRow (fun vs H Q E h => ?_) (fun cdv A outer s H vs Q E hr h => ?_)
  · obtain ⟨x, rfl, _⟩ := h
    rfl
  obtain ⟨x, rfl, R, q⟩ := h
  have hsz : 1000000 < sizeLine := by decide
  refine ⟨_, (pss_one (ps_ret (pe_and (pe_callB call_isiT (by rfl) T.isi (by decide +kernel) (pa_cons (pv 0) (pa_cons (pe_tup (pa_cons (pe_bltn (v := .ty "list") (by rfl) T.list (by decide +kernel) rfl) (pa_cons (pe_bltn (v := .ty "tuple") (by rfl) T.tuple (by decide +kernel) rfl) pa_nil))) pa_nil))) (pe_one (pe_callB (cr_all rfl) (by rfl) T.all (by decide +kernel) (pa_cons (pe_lc (own := [("item", 1)]) (g := (gName 1)) rfl scIsRow.nd (PI.or (pi_list (pv 0)) (pi_tup (pv 0))) (blkOk_by (own := [("item", 1)]) (N := ["value", "item"]) (sc := defScope sIsRow) (by decide +kernel)) (fun _ _ _ _ _ => (pg_name (i := 1) scIsRow.nd rfl (Or.inl rfl) (Or.inr rfl))) (fun _ _ _ _ _ => pts_nil) (fun _ _ _ _ _ => (pe_call GI.ok (hr.mono (by decide)) (by rfl) GI.m GI.kp GI.b .nil pass0 (pa_cons (pv 1) pa_nil)))) pa_nil)))))), ?_⟩
  have hz : ([V.ty "list", V.ty "tuple"] : List V).length ≤ sizeLine := by show 2 ≤ sizeLine; decide
  refine ⟨x, rfl, hz, fun t ht => ?_⟩
  have s1 := same_upd ht (.tup [.ty "list", .ty "tuple"])
  rcases R with ⟨ty, h1, h2, h3⟩ | ⟨a, ys, bs, rfl, R, e⟩
  · refine ⟨_, t, _, _, [.type "list", .type "tuple"], _, rfl, upd_same, .cons (.ty _) (.cons (.ty _) .nil), h1 _ s1, kitLT (r1 := false) (r2 := false) h2 h3, ?_⟩
    exact ⟨_, rfl, iteF (q _ s1)⟩
  have R1 := R.same s1
  refine ⟨_, t, _, _, [.type "list", .type "tuple"], _, rfl, upd_same, .cons (.ty _) (.cons (.ty _) .nil), .base (.lst R1.at_), kitLT (r1 := true) (r2 := false) (by decide +kernel) (by decide +kernel), ?_⟩
  refine ⟨_, rfl, iteT ?_⟩
  generalize upd H t (.tup [.ty "list", .ty "tuple"]) = H1 at s1 R1 ⊢
  have le := R1.le
  have len := R1.len
  refine .inl ⟨_, rfl, a, rfl, ⟨_, SqL.of R1.at_⟩, fun D hD => ?_⟩
  refine lc_it (walk_list (K := K) (xs := ys)) (fun i H2 => Same H1 H2 ∧ H2 D = some (.lst ((bs.take i).map V.bl))) ⟨same_upd hD _, upd_same⟩ (fun i H2 _ h => h.1.seq (SqL.of R1.at_)) (fun i v H2 H3 hi h hv => ?_) fun H2 h => ?_
  · obtain ⟨rfl, hv⟩ := hv
    obtain ⟨s2, h2⟩ := h
    have hb : i < bs.length := by omega
    obtain ⟨t', bi, bb, k1, k2, k3, k4⟩ := R1.it i v bs[i] hv (List.getElem?_eq_getElem hb)
    refine ⟨rfl, _, rfl, _, t', bi, bb, rfl, k1 _ s2, k2, k3, _, h2, by rw [List.length_map, List.length_take]; omega, fun b o hb => ?_, ?_⟩
    · rw [upd_ne (ne_of_none hb hD)]; exact s2 _ _ hb
    · rw [upd_same, List.take_add_one, List.getElem?_eq_getElem hb, k4, List.map_append]; rfl
  · obtain ⟨s2, h2⟩ := h
    rw [← len, List.take_length] at h2
    refine ⟨D, bs, rfl, SqL.of h2, ?_⟩
    rw [e]
    exact q H2 (s1.trans s2)
/-! ### the constructor that raises -/
inductive BadIn (K : PySem.W.Frag) (H : Hp) (x y : V) : Prop where
  | top : NoRow K H x → BadIn K H x y
  | bot {p : SerM.Po} : RowV K H x p → p.length ≤ 1000 → NoRow K H y → BadIn K H x y
  | first {p q : SerM.Po} : RowV K H x p → p.length ≤ 1000 → RowV K H y q → q.length ≤ 1000 → q = [] ∨ SerM.co q 0 ≠ 1 → BadIn K H x y
theorem BadIn.same {H H' : Hp} {x y : V} (h : BadIn K H x y) (s : Same H H') : BadIn K H' x y := by
  cases h with
  | top h => exact .top (h.same s)
  | bot h l g => exact .bot (h.same s) l (g.same s)
  | first h l g l2 e => exact .first (h.same s) l (g.same s) l2 e
def spSerB (K : PySem.W.Frag) (CI : Addr) : Sp := fun vs H _ E => ∃ (a : Addr) (x y : V), vs = [.ref a, x, y] ∧ BadIn K H x y ∧ XkE CI [("code", .str "InvalidSeries")] H E
theorem ok_serB {f C CI g1 gn g2 g3 fU : Addr} {fd d1 dn d2 d3 dU : FuncData} {dvs : List V} {gU : List Value → List Value → List Value} (F : FunD K "__init__" "Series.__init__" (defArgs sS_init) (defBody sS_init) (defScope sS_init) dvs [] f fd) (XU : Xr P w K mg base CI 0 fU dU "InvalidSeries" ["self"] (spI0 CI "InvalidSeries") gU) (GW : Df P w K mg base 2 g1 d1 "is_row" ["value"] (fun vs H Q E => spIsRow K vs H Q E ∨ spIsRowN K vs H Q E)) (GR : Df P w K mg base 4 g2 d2 "reduced" ["top", "bottom"] (spReduced K)) (GO : Df P w K mg base 1 g3 d3 "order_of" ["row"] (spOrderOf K)) :
    FnOk P w K mg base (L2.CX P w) 5 f fd serPs (spSerB K CI) := by
  refine F.ok scS_init (fun vs H Q E h => ?_) (fun cdv A outer s H vs Q E hr h => ?_)
  · obtain ⟨a, x, y, rfl, _⟩ := h
    rfl
  obtain ⟨a, x, y, rfl, bad, q⟩ := h
  refine ⟨_, (pss_cons (ps_if (PW.pt (pw_or (pt_not (pt_val (pe_call GW.ok (hr.mono (by decide)) (by rfl) GW.m GW.kp GW.b .nil pass0 (pa_cons (pv 1) pa_nil)))) (pw_or (pt_not (pt_val (pe_call GW.ok (hr.mono (by decide)) (by rfl) GW.m GW.kp GW.b .nil pass0 (pa_cons (pv 2) pa_nil)))) (pw_or (pt_not (pt_truth (pv 2) (by intro _; rfl))) (pw_or1 (pt_cmpR op_ne (pe_ix ix_seq (pv 2) pe_int (fun _ _ => rfl)) pe_int (nomark _)))))))
 (pss_one (ps_raise rfl (takes_of rfl rfl rfl rfl) (ExR.pmk_exo rfl (pe_mkG0 XU.x (hr.mono (by decide)) (by rfl) XU.kb))))
 pss_nil)
 (pss_cons (ps_asg (pe_call GR.ok (hr.mono (by decide)) (by rfl) GR.m GR.kp GR.b .nil pass0 (pa_cons (pv 1) (pa_cons (pv 2) pa_nil))) (pg_tup (by rfl) (pgs_cons (pg_fld (pv 0)) (pgs_cons (pg_fld (pv 0)) pgs_nil))))
 (pss_one (ps_fld (pv 0) (pe_call GO.ok (hr.mono (by decide)) (by rfl) GO.m GO.kp GO.b .nil pass0 (pa_cons (pe_fld (pv 0) rfl) pa_nil)) rfl)))), ?_⟩
  cases bad with
  | top h =>
    refine ⟨x, rfl, .inr ⟨x, rfl, h, fun H1 s1 => ⟨_, rfl, iteT ?_⟩⟩⟩
    exact ⟨rfl, rfl, (by decide), fun a ha => mk_raise0 XU.x.T rfl s1 ha (q.from s1)⟩
  | bot R l h =>
    refine ⟨x, rfl, .inl ⟨x, _, rfl, R, l, fun H1 s1 => ⟨_, rfl, iteF ?_⟩⟩⟩
    refine ⟨y, rfl, .inr ⟨y, rfl, h.same s1, fun H2 s2 => ⟨_, rfl, iteT ?_⟩⟩⟩
    exact ⟨rfl, rfl, (by decide), fun a ha => mk_raise0 XU.x.T rfl (s1.trans s2) ha (q.from (s1.trans s2))⟩
  | first R l G l2 e =>
    refine ⟨x, rfl, .inl ⟨x, _, rfl, R, l, fun H1 s1 => ⟨_, rfl, iteF ?_⟩⟩⟩
    refine ⟨y, rfl, .inl ⟨y, _, rfl, G.same s1, l2, fun H2 s2 => ⟨_, rfl, iteF ?_⟩⟩⟩
    have s12 := s1.trans s2
    have G2 := G.same s12
    refine ⟨y, rfl, _, G2.tru, ?_⟩
    rename_i p q0
    cases q0 with
    | nil => exact iteT ⟨rfl, rfl, (by decide), fun a ha => mk_raise0 XU.x.T rfl s12 ha (q.from s12)⟩
    | cons z zr =>
      refine iteF ?_
      refine ⟨y, rfl, ?_⟩
      refine G2.ix (i := 0) rfl (Nat.succ_pos _) ⟨rfl, _, rfl, ?_⟩
      have ne : SerM.co (z :: zr) 0 ≠ 1 := by
        rcases e with e | e
        · cases e
        · exact e
      rw [show decide (V.int (SerM.co (z :: zr) 0) = V.int 1) = false from decide_eq_false fun hh => by injection hh with hh; exact ne hh]
      exact iteT ⟨rfl, rfl, (by decide), fun a ha => mk_raise0 XU.x.T rfl s12 ha (q.from s12)⟩
end
end Un
namespace Un
open PySem L2 TL
section
variable {P : Program} {w : World} {K : PySem.W.Frag} {mg : Str → Option Value} {base : Heap}
end
end Un
/-! ### an own class's operator, anything on its right -/
namespace AnyX
open PySem PySem.Spec PyProof.Rows L2
section
variable {prog : Program} {w : World} {A : Around} {E : Value → Shared → Prop} {s : Shared} {K : PySem.W.Frag} {C f : Addr} {nm : String}
theorem bin1_any {x : Addr} {ox : Obj} {od : Option Obj} {u : Value} {t : String} {b : Bool} {Q : Value → Shared → Prop} (X : K.In s.heap) (I : PySem.W.InstAt s.heap x ox C od) (h : BinO.Has K C nm f) (hR : BinO.HasR K C nm) (hu : PySem.W.Looks (model prog w) s.heap (typeOf u) (.type t)) (fi : fillsNumberSlot (.type t) nm = pure b)
    (hb : b = true → PySem.W.subIn K (.type t) (.ref C) = some false ∧ numberSlotInPython (.type t) nm = pure false ∧ ∃ ri, PySem.W.findIn K (.type t) (dunderR nm) = some ri)
    (q : wpAny (model prog w) A (call (.ref f) [.ref x, u]) (BinO.Told Q) E s) : wpAny (model prog w) A (binaryOp1 nm (.ref x) u) (fun r s' => ∃ v, r = some v ∧ Q v s') E s := by
  unfold binaryOp1
  simp only []
  refine wpAny_bind (I.type.here ?_)
  refine wpAny_bind (hu.here ?_)
  refine wpAny_bind (BinO.fills_own X h ?_)
  have e : (Value.ref C == Value.type t) = false := by simp
  simp only [e, Bool.false_eq_true, if_false, fi]
  refine wpAny_bind (wpAny_pure ?_)
  cases b with
  | false =>
    simp only [Bool.and_false, Bool.false_eq_true, if_false, Bool.false_and, pure_bind, if_true]
    refine wpAny_bind (wpAny_mono (BinO.try_own X I _ h.at_ h.fn q) (fun r s' hr => ?_) fun _ _ z => z)
    obtain ⟨v, rfl, hq⟩ := hr
    exact wpAny_pure ⟨v, rfl, hq⟩
  | true =>
    obtain ⟨h1, h2, ri, li⟩ := hb rfl
    simp only [Bool.and_self, if_true]
    refine wpAny_bind ((PySem.W.looks_subIn X h1).here ?_)
    simp only [Bool.false_eq_true, if_false, Bool.not_false, Bool.and_true, Bool.and_self, if_true]
    refine wpAny_bind (BinO.slot_own X h hR ?_)
    simp only [if_true, h2]
    refine wpAny_bind (wpAny_pure ?_)
    simp only [Bool.not_false, if_true]
    refine wpAny_bind ((PySem.W.looks_findIn X li).here ?_)
    refine wpAny_bind (wpAny_mono (BinO.try_own X I _ h.at_ h.fn q) (fun r s' hr => ?_) fun _ _ z => z)
    obtain ⟨v, rfl, hq⟩ := hr
    exact wpAny_pure ⟨v, rfl, hq⟩
end
theorem sub_b {K : PySem.W.Frag} {C : Addr} {t : String} {m : List Value} (e : fastBuiltinMro t = some m) (h : m.contains (.ref C) = false) : PySem.W.subIn K (.type t) (.ref C) = some false := by
  show (fastBuiltinMro t).map (·.contains (.ref C)) = some false
  rw [e]
  show some (m.contains (.ref C)) = some false
  rw [h]
/-- what is no whole number from 0 to 1000 in the law -/
inductive Wrong (H : Hp) : V → Prop where
  | int {i : Int} : ¬ (0 ≤ i ∧ i ≤ 1000) → Wrong H (.int i)
  | bl {b : Bool} : Wrong H (.bl b)
  | non : Wrong H .non
  | str {z : Str} : Wrong H (.str z)
  | tup {a : Addr} : H a = some (.tup [V.int 1]) → Wrong H (.ref a)
theorem Wrong.same {H H' : Hp} {v : V} (h : Wrong H v) (s : Same H H') : Wrong H' v := by
  cases h with
  | int h => exact .int h
  | bl => exact .bl
  | non => exact .non
  | str => exact .str
  | tup h => exact .tup (s _ _ h)
/-- an operator of an own class, a wrong value on its right -/
structure OpA (K : PySem.W.Frag) (C : Addr) (nm : String) (m : Str) : Prop where
  k : BinO.OpK K C nm m
  fb : fillsNumberSlot (.type "bool") nm = pure true
  fn : fillsNumberSlot (.type "NoneType") nm = pure false
  fs : fillsNumberSlot (.type "str") nm = pure false
  ft : fillsNumberSlot (.type "tuple") nm = pure false
  lb : ∃ ri, PySem.W.findIn K (.type "bool") (dunderR nm) = some ri
section
variable {X : Cx} {CX : CXT} {k : Nat} {C f : Addr} {fd : FuncData} {ps : List Str} {sp : Sp} {op : Operator} {m : Str} {E : XK}
theorem op_binA (M : Meth X.K C m f) (F : FnOk X.prog X.w X.K X.mg X.base CX k f fd ps sp) (b : Binds X.K fd ps []) (O : OpA X.K C op.info.2 m) (hr : Room k X.A) (hx : Passes CX X E) :
    OpR X (binaryOp op) (fun x y H Q => ∃ a dx fs, x = .ref a ∧ Wrong H y ∧ H a = some (.ins C dx fs) ∧ sp [.ref a, y] H Q E) := by
  intro pins s σ H x y v u Q I rx ry h
  have hs : BinO.Has X.K C op.info.2 f := ⟨O.k.mro, by rw [← O.k.eqm]; exact M.at_, M.fn⟩
  obtain ⟨a, dx, fs, rfl, wr, ea, q⟩ := h
  obtain ⟨ox, od, J, _⟩ := StX.insC_at I (.inr ⟨dx, fs, ea⟩)
  cases rx
  have fin : wpAny (model X.prog X.w) X.A (call (.ref f) [.ref a, u]) (BinO.Told (EP X pins σ Q)) X.xe s := by
    refine wpAny_mono (run_fn (us := [.ref a, u]) (vs := [.ref a, y]) F hr b .nil hx I (.cons rfl (.cons ry .nil)) (by simpa using q)) (fun r s' hu => ?_) fun e s' he => he
    obtain ⟨z, H', I', rv, q'⟩ := hu
    exact ⟨BinO.rel_told rv, z, H', I', rv, q'⟩
  have ry' := ry
  refine BinO.op_of1 ?_
  cases wr with
  | int _ =>
    obtain ⟨t, rfl⟩ := ry'
    obtain ⟨ri, li⟩ := O.k.li
    exact BinO.bin1_int I.kIn J hs O.k.refl O.k.fi li fin
  | bl =>
    obtain rfl := ry'
    exact bin1_any (t := "bool") I.kIn J hs O.k.refl .now O.fb (fun _ => ⟨sub_b (m := [.type "bool", .type "int", .type "object"]) (by decide +kernel) (by simp), rfl, O.lb⟩) fin
  | non =>
    obtain rfl := ry'
    exact bin1_any (t := "NoneType") I.kIn J hs O.k.refl .now O.fn (fun z => nomatch z) fin
  | str =>
    obtain ⟨t, rfl⟩ := ry'
    exact bin1_any (t := "str") I.kIn J hs O.k.refl .now O.fs (fun z => nomatch z) fin
  | tup h =>
    obtain rfl := ry'
    obtain ⟨its, rv, ⟨o, ho, hc, _⟩, hz⟩ := I.tuple (.inl (.inl h))
    exact bin1_any (t := "tuple") I.kIn J hs O.k.refl (hc ▸ (PySem.W.Looks.ld ho).andThen .now) O.ft (fun z => nomatch z) fin
end
end AnyX
namespace Un
section
end
end Un
namespace Un
open PySem L2 TL
section
variable {P : Program} {w : World} {K : PySem.W.Frag} {mg : Str → Option Value} {base : Heap}
/-! ### refused numbers -/
open XV AnyX
theorem wr_int {i : Int} (h : ¬ (0 ≤ i ∧ i ≤ 1000)) : (decide ((0 : Int) ≤ i) && decide (i ≤ 1000)) = false := by
  rw [Bool.and_eq_false_iff]
  by_cases h0 : 0 ≤ i
  · exact .inr (decide_eq_false fun hh => h ⟨h0, hh⟩)
  · exact .inl (decide_eq_false h0)
def spWr (CN : Addr) : Sp := fun vs H _ E => ∃ (a : Addr) (v : V), vs = [.ref a, v] ∧ Wrong H v ∧ XkE CN [("value", v), ("code", .str "InvalidNumber")] H E
def spWr1 (CN : Addr) : Sp := fun vs H _ E => ∃ v : V, vs = [v] ∧ Wrong H v ∧ XkE CN [("value", v), ("code", .str "InvalidNumber")] H E
theorem scX_coefficient : FnScope ["self", "k"] ["self", "k"] (defScope sS_coef) := ⟨rfl, rfl, rfl, by decide +kernel, rfl, by decide +kernel, by decide +kernel⟩
theorem ok_coefficientW {f C CN g1 fN : Addr} {fd d1 dN : FuncData} {gN : List Value → List Value → List Value} {tb : Tok} {g2 : Addr} {d2 : FuncData} (GX : Df P w K mg base 1 g2 d2 "expanded" ["top", "bottom", "length"] (spExpanded K)) (F : Fun K "coefficient" "Series.coefficient" sS_coef f fd) (XN : Xr P w K mg base CN 1 fN dN "InvalidNumber" ["self", "value"] (spI1 CN "InvalidNumber" "value") gN) (mb : mg "MOST_BEATS" = some (.int 1000 tb)) (GN : Df P w K mg base 2 g1 d1 "is_number" ["value", "least", "most"] (spNumber K)) : FnOk P w K mg base (L2.CX P w) 3 f fd ["self", "k"] (spWr CN) := by
  refine F.okX scX_coefficient (fun vs H Q E h => ?_) (fun cdv A outer s H vs Q E hr h => ?_)
  · obtain ⟨a, v, rfl, _⟩ := h
    rfl
  obtain ⟨a, v, rfl, wr, q⟩ := h
  refine ⟨_, (pss_cons (ps_if (pt_not (pt_val (pe_call GN.ok (hr.mono (by decide)) (by rfl) GN.m GN.kp GN.b .nil pass0 (pa_cons (pv 1) (pa_cons pe_int (pa_cons (pe_glob (v := .int 1000) (by rfl) mb ⟨_, rfl⟩) pa_nil))))))
 (pss_one (ps_raise rfl (takes_of rfl rfl rfl rfl) (ExR.pmk_exo rfl (pe_mkG XN.x (hr.mono (by decide)) (by rfl) XN.kb (pa_cons (pv 1) pa_nil)))))
 pss_nil)
 (pss_one (ps_ret (pe_ix ix_list (pe_call GX.ok (hr.mono (by decide)) (by rfl) GX.m GX.kp GX.b .nil pass0 (pa_cons (pe_fld (pv 0) rfl) (pa_cons (pe_fld (pv 0) rfl) (pa_cons (pe_op op_add (pv 1) pe_int) pa_nil)))) (pv 1) (fun _ _ => rfl))))), ?_⟩
  cases wr with
  | int h =>
    refine ⟨_, rfl, _, 0, 1000, rfl, .inl ⟨_, rfl, ?_⟩⟩
    rw [wr_int h]
    refine ⟨_, rfl, iteT ?_⟩
    exact ⟨_, rfl, rfl, rfl, (by decide), fun a ha => mk_raise1 XN.x.T rfl (Same.refl _) ha q⟩
  | bl =>
    refine ⟨_, rfl, _, 0, 1000, rfl, .inr ⟨"bool", true, true, .base (.bl _), by decide +kernel, by decide +kernel, rfl, ?_⟩⟩
    refine ⟨_, rfl, iteT ?_⟩
    exact ⟨_, rfl, rfl, rfl, (by decide), fun a ha => mk_raise1 XN.x.T rfl (Same.refl _) ha q⟩
  | non =>
    refine ⟨_, rfl, _, 0, 1000, rfl, .inr ⟨"NoneType", false, false, .base (.non), by decide +kernel, by decide +kernel, rfl, ?_⟩⟩
    refine ⟨_, rfl, iteT ?_⟩
    exact ⟨_, rfl, rfl, rfl, (by decide), fun a ha => mk_raise1 XN.x.T rfl (Same.refl _) ha q⟩
  | str =>
    refine ⟨_, rfl, _, 0, 1000, rfl, .inr ⟨"str", false, false, .base (.str _), by decide +kernel, by decide +kernel, rfl, ?_⟩⟩
    refine ⟨_, rfl, iteT ?_⟩
    exact ⟨_, rfl, rfl, rfl, (by decide), fun a ha => mk_raise1 XN.x.T rfl (Same.refl _) ha q⟩
  | tup h =>
    refine ⟨_, rfl, _, 0, 1000, rfl, .inr ⟨"tuple", false, false, .base (.tup h), by decide +kernel, by decide +kernel, rfl, ?_⟩⟩
    refine ⟨_, rfl, iteT ?_⟩
    exact ⟨_, rfl, rfl, rfl, (by decide), fun a ha => mk_raise1 XN.x.T rfl (Same.refl _) ha q⟩
theorem scX_first : FnScope ["self", "n"] ["self", "n"] (defScope sS_first) := ⟨rfl, rfl, rfl, by decide +kernel, rfl, by decide +kernel, by decide +kernel⟩
theorem ok_firstW {f C CN g1 fN : Addr} {fd d1 dN : FuncData} {gN : List Value → List Value → List Value} {tb : Tok} {g2 : Addr} {d2 : FuncData} (GX : Df P w K mg base 1 g2 d2 "expanded" ["top", "bottom", "length"] (spExpanded K)) (F : Fun K "first" "Series.first" sS_first f fd) (XN : Xr P w K mg base CN 1 fN dN "InvalidNumber" ["self", "value"] (spI1 CN "InvalidNumber" "value") gN) (mb : mg "MOST_BEATS" = some (.int 1000 tb)) (GN : Df P w K mg base 2 g1 d1 "is_number" ["value", "least", "most"] (spNumber K)) : FnOk P w K mg base (L2.CX P w) 3 f fd ["self", "n"] (spWr CN) := by
  refine F.okX scX_first (fun vs H Q E h => ?_) (fun cdv A outer s H vs Q E hr h => ?_)
  · obtain ⟨a, v, rfl, _⟩ := h
    rfl
  obtain ⟨a, v, rfl, wr, q⟩ := h
  refine ⟨_, (pss_cons (ps_if (pt_not (pt_val (pe_call GN.ok (hr.mono (by decide)) (by rfl) GN.m GN.kp GN.b .nil pass0 (pa_cons (pv 1) (pa_cons pe_int (pa_cons (pe_glob (v := .int 1000) (by rfl) mb ⟨_, rfl⟩) pa_nil))))))
 (pss_one (ps_raise rfl (takes_of rfl rfl rfl rfl) (ExR.pmk_exo rfl (pe_mkG XN.x (hr.mono (by decide)) (by rfl) XN.kb (pa_cons (pv 1) pa_nil)))))
 pss_nil)
 (pss_one (ps_ret (pe_call GX.ok (hr.mono (by decide)) (by rfl) GX.m GX.kp GX.b .nil pass0 (pa_cons (pe_fld (pv 0) rfl) (pa_cons (pe_fld (pv 0) rfl) (pa_cons (pv 1) pa_nil))))))), ?_⟩
  cases wr with
  | int h =>
    refine ⟨_, rfl, _, 0, 1000, rfl, .inl ⟨_, rfl, ?_⟩⟩
    rw [wr_int h]
    refine ⟨_, rfl, iteT ?_⟩
    exact ⟨_, rfl, rfl, rfl, (by decide), fun a ha => mk_raise1 XN.x.T rfl (Same.refl _) ha q⟩
  | bl =>
    refine ⟨_, rfl, _, 0, 1000, rfl, .inr ⟨"bool", true, true, .base (.bl _), by decide +kernel, by decide +kernel, rfl, ?_⟩⟩
    refine ⟨_, rfl, iteT ?_⟩
    exact ⟨_, rfl, rfl, rfl, (by decide), fun a ha => mk_raise1 XN.x.T rfl (Same.refl _) ha q⟩
  | non =>
    refine ⟨_, rfl, _, 0, 1000, rfl, .inr ⟨"NoneType", false, false, .base (.non), by decide +kernel, by decide +kernel, rfl, ?_⟩⟩
    refine ⟨_, rfl, iteT ?_⟩
    exact ⟨_, rfl, rfl, rfl, (by decide), fun a ha => mk_raise1 XN.x.T rfl (Same.refl _) ha q⟩
  | str =>
    refine ⟨_, rfl, _, 0, 1000, rfl, .inr ⟨"str", false, false, .base (.str _), by decide +kernel, by decide +kernel, rfl, ?_⟩⟩
    refine ⟨_, rfl, iteT ?_⟩
    exact ⟨_, rfl, rfl, rfl, (by decide), fun a ha => mk_raise1 XN.x.T rfl (Same.refl _) ha q⟩
  | tup h =>
    refine ⟨_, rfl, _, 0, 1000, rfl, .inr ⟨"tuple", false, false, .base (.tup h), by decide +kernel, by decide +kernel, rfl, ?_⟩⟩
    refine ⟨_, rfl, iteT ?_⟩
    exact ⟨_, rfl, rfl, rfl, (by decide), fun a ha => mk_raise1 XN.x.T rfl (Same.refl _) ha q⟩
theorem scX_lsh : FnScope ["self", "other"] ["self", "other"] (defScope sS_lsh) := ⟨rfl, rfl, rfl, by decide +kernel, rfl, by decide +kernel, by decide +kernel⟩
theorem ok_lshW {f C CN g1 fN : Addr} {fd d1 dN : FuncData} {gN : List Value → List Value → List Value} {tb : Tok} {g2 : Addr} {d2 : FuncData} {spD : Sp} (GD : Df P w K mg base 7 g2 d2 "delayed" ["series", "beats"] spD) (F : Fun K "__lshift__" "Series.__lshift__" sS_lsh f fd) (XN : Xr P w K mg base CN 1 fN dN "InvalidNumber" ["self", "value"] (spI1 CN "InvalidNumber" "value") gN) (mb : mg "MOST_BEATS" = some (.int 1000 tb)) (GN : Df P w K mg base 2 g1 d1 "is_number" ["value", "least", "most"] (spNumber K)) : FnOk P w K mg base (L2.CX P w) 8 f fd ["self", "other"] (spWr CN) := by
  refine F.okX scX_lsh (fun vs H Q E h => ?_) (fun cdv A outer s H vs Q E hr h => ?_)
  · obtain ⟨a, v, rfl, _⟩ := h
    rfl
  obtain ⟨a, v, rfl, wr, q⟩ := h
  refine ⟨_, (pss_cons (ps_if (pt_not (pt_val (pe_call GN.ok (hr.mono (by decide)) (by rfl) GN.m GN.kp GN.b .nil pass0 (pa_cons (pv 1) (pa_cons pe_int (pa_cons (pe_glob (v := .int 1000) (by rfl) mb ⟨_, rfl⟩) pa_nil))))))
 (pss_one (ps_raise rfl (takes_of rfl rfl rfl rfl) (ExR.pmk_exo rfl (pe_mkG XN.x (hr.mono (by decide)) (by rfl) XN.kb (pa_cons (pv 1) pa_nil)))))
 pss_nil)
 (pss_one (ps_ret (pe_call GD.ok (hr.mono (by decide)) (by rfl) GD.m GD.kp GD.b .nil pass0 (pa_cons (pv 0) (pa_cons (pv 1) pa_nil)))))), ?_⟩
  cases wr with
  | int h =>
    refine ⟨_, rfl, _, 0, 1000, rfl, .inl ⟨_, rfl, ?_⟩⟩
    rw [wr_int h]
    refine ⟨_, rfl, iteT ?_⟩
    exact ⟨_, rfl, rfl, rfl, (by decide), fun a ha => mk_raise1 XN.x.T rfl (Same.refl _) ha q⟩
  | bl =>
    refine ⟨_, rfl, _, 0, 1000, rfl, .inr ⟨"bool", true, true, .base (.bl _), by decide +kernel, by decide +kernel, rfl, ?_⟩⟩
    refine ⟨_, rfl, iteT ?_⟩
    exact ⟨_, rfl, rfl, rfl, (by decide), fun a ha => mk_raise1 XN.x.T rfl (Same.refl _) ha q⟩
  | non =>
    refine ⟨_, rfl, _, 0, 1000, rfl, .inr ⟨"NoneType", false, false, .base (.non), by decide +kernel, by decide +kernel, rfl, ?_⟩⟩
    refine ⟨_, rfl, iteT ?_⟩
    exact ⟨_, rfl, rfl, rfl, (by decide), fun a ha => mk_raise1 XN.x.T rfl (Same.refl _) ha q⟩
  | str =>
    refine ⟨_, rfl, _, 0, 1000, rfl, .inr ⟨"str", false, false, .base (.str _), by decide +kernel, by decide +kernel, rfl, ?_⟩⟩
    refine ⟨_, rfl, iteT ?_⟩
    exact ⟨_, rfl, rfl, rfl, (by decide), fun a ha => mk_raise1 XN.x.T rfl (Same.refl _) ha q⟩
  | tup h =>
    refine ⟨_, rfl, _, 0, 1000, rfl, .inr ⟨"tuple", false, false, .base (.tup h), by decide +kernel, by decide +kernel, rfl, ?_⟩⟩
    refine ⟨_, rfl, iteT ?_⟩
    exact ⟨_, rfl, rfl, rfl, (by decide), fun a ha => mk_raise1 XN.x.T rfl (Same.refl _) ha q⟩
theorem scX_rsh : FnScope ["self", "other"] ["self", "other"] (defScope sS_rsh) := ⟨rfl, rfl, rfl, by decide +kernel, rfl, by decide +kernel, by decide +kernel⟩
theorem ok_rshW {f C CN g1 fN : Addr} {fd d1 dN : FuncData} {gN : List Value → List Value → List Value} {tb : Tok} {g2 : Addr} {d2 : FuncData} {spD : Sp} (GH : Df P w K mg base 7 g2 d2 "hastened" ["series", "beats"] spD) (F : Fun K "__rshift__" "Series.__rshift__" sS_rsh f fd) (XN : Xr P w K mg base CN 1 fN dN "InvalidNumber" ["self", "value"] (spI1 CN "InvalidNumber" "value") gN) (mb : mg "MOST_BEATS" = some (.int 1000 tb)) (GN : Df P w K mg base 2 g1 d1 "is_number" ["value", "least", "most"] (spNumber K)) : FnOk P w K mg base (L2.CX P w) 8 f fd ["self", "other"] (spWr CN) := by
  refine F.okX scX_rsh (fun vs H Q E h => ?_) (fun cdv A outer s H vs Q E hr h => ?_)
  · obtain ⟨a, v, rfl, _⟩ := h
    rfl
  obtain ⟨a, v, rfl, wr, q⟩ := h
  refine ⟨_, (pss_cons (ps_if (pt_not (pt_val (pe_call GN.ok (hr.mono (by decide)) (by rfl) GN.m GN.kp GN.b .nil pass0 (pa_cons (pv 1) (pa_cons pe_int (pa_cons (pe_glob (v := .int 1000) (by rfl) mb ⟨_, rfl⟩) pa_nil))))))
 (pss_one (ps_raise rfl (takes_of rfl rfl rfl rfl) (ExR.pmk_exo rfl (pe_mkG XN.x (hr.mono (by decide)) (by rfl) XN.kb (pa_cons (pv 1) pa_nil)))))
 pss_nil)
 (pss_cons (ps_if (PW.pt (pw_and (pt_cmpR op_notN (pe_fld (pv 0) rfl) pe_non (nomark _)) (pw_and1 (pt_cmpR op_lt (pe_fld (pv 0) rfl) (pv 1) (nomark _)))))
 pss_never
 pss_nil)
 (pss_one (ps_ret (pe_call GH.ok (hr.mono (by decide)) (by rfl) GH.m GH.kp GH.b .nil pass0 (pa_cons (pv 0) (pa_cons (pv 1) pa_nil))))))), ?_⟩
  cases wr with
  | int h =>
    refine ⟨_, rfl, _, 0, 1000, rfl, .inl ⟨_, rfl, ?_⟩⟩
    rw [wr_int h]
    refine ⟨_, rfl, iteT ?_⟩
    exact ⟨_, rfl, rfl, rfl, (by decide), fun a ha => mk_raise1 XN.x.T rfl (Same.refl _) ha q⟩
  | bl =>
    refine ⟨_, rfl, _, 0, 1000, rfl, .inr ⟨"bool", true, true, .base (.bl _), by decide +kernel, by decide +kernel, rfl, ?_⟩⟩
    refine ⟨_, rfl, iteT ?_⟩
    exact ⟨_, rfl, rfl, rfl, (by decide), fun a ha => mk_raise1 XN.x.T rfl (Same.refl _) ha q⟩
  | non =>
    refine ⟨_, rfl, _, 0, 1000, rfl, .inr ⟨"NoneType", false, false, .base (.non), by decide +kernel, by decide +kernel, rfl, ?_⟩⟩
    refine ⟨_, rfl, iteT ?_⟩
    exact ⟨_, rfl, rfl, rfl, (by decide), fun a ha => mk_raise1 XN.x.T rfl (Same.refl _) ha q⟩
  | str =>
    refine ⟨_, rfl, _, 0, 1000, rfl, .inr ⟨"str", false, false, .base (.str _), by decide +kernel, by decide +kernel, rfl, ?_⟩⟩
    refine ⟨_, rfl, iteT ?_⟩
    exact ⟨_, rfl, rfl, rfl, (by decide), fun a ha => mk_raise1 XN.x.T rfl (Same.refl _) ha q⟩
  | tup h =>
    refine ⟨_, rfl, _, 0, 1000, rfl, .inr ⟨"tuple", false, false, .base (.tup h), by decide +kernel, by decide +kernel, rfl, ?_⟩⟩
    refine ⟨_, rfl, iteT ?_⟩
    exact ⟨_, rfl, rfl, rfl, (by decide), fun a ha => mk_raise1 XN.x.T rfl (Same.refl _) ha q⟩
theorem scX_delay : FnScope ["d"] ["d"] (defScope sS_delay) := ⟨rfl, rfl, rfl, by decide +kernel, rfl, by decide +kernel, by decide +kernel⟩
theorem ok_delayW {f C CN g1 fN : Addr} {fd d1 dN : FuncData} {gN : List Value → List Value → List Value} {tb : Tok} {fI : Addr} {dI : FuncData} {d : V} {dv : List Value} (M : MakS P w K mg base C fI dI d dv) (F : Fun K "delay" "Series.delay" sS_delay f fd) (XN : Xr P w K mg base CN 1 fN dN "InvalidNumber" ["self", "value"] (spI1 CN "InvalidNumber" "value") gN) (mb : mg "MOST_BEATS" = some (.int 1000 tb)) (GN : Df P w K mg base 2 g1 d1 "is_number" ["value", "least", "most"] (spNumber K)) : FnOk P w K mg base (L2.CX P w) 7 f fd ["d"] (spWr1 CN) := by
  refine F.okX scX_delay (fun vs H Q E h => ?_) (fun cdv A outer s H vs Q E hr h => ?_)
  · obtain ⟨v, rfl, _⟩ := h
    rfl
  obtain ⟨v, rfl, wr, q⟩ := h
  obtain ⟨mkS, okS, mC, bS2, bS1, dS, rowS⟩ := M
  refine ⟨_, (pss_cons (ps_if (pt_not (pt_val (pe_call GN.ok (hr.mono (by decide)) (by rfl) GN.m GN.kp GN.b .nil pass0 (pa_cons (pv 0) (pa_cons pe_int (pa_cons (pe_glob (v := .int 1000) (by rfl) mb ⟨_, rfl⟩) pa_nil))))))
 (pss_one (ps_raise rfl (takes_of rfl rfl rfl rfl) (ExR.pmk_exo rfl (pe_mkG XN.x (hr.mono (by decide)) (by rfl) XN.kb (pa_cons (pv 0) pa_nil)))))
 pss_nil)
 (pss_one (ps_ret (pe_make mkS okS (hr.mono (by decide)) (by rfl) mC bS1 dS pass0 (pa_cons (pe_op op_cat (pe_op op_rep (pe_lst (pa_cons pe_int pa_nil)) (pv 0)) (pe_lst (pa_cons pe_int pa_nil))) pa_nil))))), ?_⟩
  cases wr with
  | int h =>
    refine ⟨_, rfl, _, 0, 1000, rfl, .inl ⟨_, rfl, ?_⟩⟩
    rw [wr_int h]
    refine ⟨_, rfl, iteT ?_⟩
    exact ⟨_, rfl, rfl, rfl, (by decide), fun a ha => mk_raise1 XN.x.T rfl (Same.refl _) ha q⟩
  | bl =>
    refine ⟨_, rfl, _, 0, 1000, rfl, .inr ⟨"bool", true, true, .base (.bl _), by decide +kernel, by decide +kernel, rfl, ?_⟩⟩
    refine ⟨_, rfl, iteT ?_⟩
    exact ⟨_, rfl, rfl, rfl, (by decide), fun a ha => mk_raise1 XN.x.T rfl (Same.refl _) ha q⟩
  | non =>
    refine ⟨_, rfl, _, 0, 1000, rfl, .inr ⟨"NoneType", false, false, .base (.non), by decide +kernel, by decide +kernel, rfl, ?_⟩⟩
    refine ⟨_, rfl, iteT ?_⟩
    exact ⟨_, rfl, rfl, rfl, (by decide), fun a ha => mk_raise1 XN.x.T rfl (Same.refl _) ha q⟩
  | str =>
    refine ⟨_, rfl, _, 0, 1000, rfl, .inr ⟨"str", false, false, .base (.str _), by decide +kernel, by decide +kernel, rfl, ?_⟩⟩
    refine ⟨_, rfl, iteT ?_⟩
    exact ⟨_, rfl, rfl, rfl, (by decide), fun a ha => mk_raise1 XN.x.T rfl (Same.refl _) ha q⟩
  | tup h =>
    refine ⟨_, rfl, _, 0, 1000, rfl, .inr ⟨"tuple", false, false, .base (.tup h), by decide +kernel, by decide +kernel, rfl, ?_⟩⟩
    refine ⟨_, rfl, iteT ?_⟩
    exact ⟨_, rfl, rfl, rfl, (by decide), fun a ha => mk_raise1 XN.x.T rfl (Same.refl _) ha q⟩
end
end Un
namespace Un
open PySem L2 TL
section
variable {P : Program} {w : World} {K : PySem.W.Frag} {mg : Str → Option Value} {base : Heap}
/-! ### long rows over [1] -/
def spReducedP (K : PySem.W.Frag) : Sp := fun vs H Q _ => ∃ (x y : V) (p q : SerM.Po), vs = [x, y] ∧ RowV K H x p ∧ RowV K H y q ∧ p.length ≤ 2000 ∧ q.length ≤ 2000 ∧ SerM.ev q 0 = 1 ∧ (SerM.trim q).length = 1 ∧
  ∀ (u v : SerM.Po), SerM.Red p q u v → ∀ (t a b : Addr) (H' : Hp), Same H H' → H' t = some (.tup [.ref a, .ref b]) → H' a = some (.lst (iv u)) → H' b = some (.lst (iv v)) → H a = none → H b = none → Q (.ref t) H'
def spSerP (K : PySem.W.Frag) (C : Addr) : Sp := fun vs H Q _ => ∃ (a dx : Addr) (x y : V) (p q : SerM.Po), vs = [.ref a, x, y] ∧ H a = some (.ins C dx []) ∧ RowV K H x p ∧ RowV K H y q ∧ p.length ≤ 2000 ∧ q.length ≤ 2000 ∧ SerM.ev q 0 = 1 ∧ (SerM.trim q).length = 1 ∧
  ∀ (u v : SerM.Po) (H' : Hp), SerM.Red p q u v → (∀ b o, b ≠ a → H b = some o → H' b = some o) → SerNew H H' C a u v → Q .non H'
def spIsRowL (K : PySem.W.Frag) : Sp := fun vs H Q _ => ∃ (x : V) (p : SerM.Po), vs = [x] ∧ RowV K H x p ∧ p.length ≤ 3000 ∧ ∀ H', Same H H' → Q (.bl true) H'
theorem ok_isRowL {f g : Addr} {fd gd : FuncData} (F : Fun K "is_row" "is_row" sIsRow f fd) (T : SerT mg) (GI : Df P w K mg base 1 g gd "is_integer" ["value"] (spInteger K)) : FnOk P w K mg base CX0 2 f fd ["value"] (spIsRowL K) := by
  refine F.ok scIsRow (fun vs H Q E h => ?_) (fun cdv A outer s H vs Q E hr h => ?_)
  · obtain ⟨x, p, rfl, _⟩ := h
    rfl
  obtain ⟨x, p, rfl, R, hl, q⟩ := h
  have hsz : 1000000 < sizeLine := by decide
  refine ⟨_, (pss_one (ps_ret (pe_and (pe_callB call_isiT (by rfl) T.isi (by decide +kernel) (pa_cons (pv 0) (pa_cons (pe_tup (pa_cons (pe_bltn (v := .ty "list") (by rfl) T.list (by decide +kernel) rfl) (pa_cons (pe_bltn (v := .ty "tuple") (by rfl) T.tuple (by decide +kernel) rfl) pa_nil))) pa_nil))) (pe_one (pe_callB (cr_all rfl) (by rfl) T.all (by decide +kernel) (pa_cons (pe_lc (own := [("item", 1)]) (g := (gName 1)) rfl scIsRow.nd (PI.or (pi_list (pv 0)) (pi_tup (pv 0))) (blkOk_by (own := [("item", 1)]) (N := ["value", "item"]) (sc := defScope sIsRow) (by decide +kernel)) (fun _ _ _ _ _ => (pg_name (i := 1) scIsRow.nd rfl (Or.inl rfl) (Or.inr rfl))) (fun _ _ _ _ _ => pts_nil) (fun _ _ _ _ _ => (pe_call GI.ok (hr.mono (by decide)) (by rfl) GI.m GI.kp GI.b .nil pass0 (pa_cons (pv 1) pa_nil)))) pa_nil)))))), ?_⟩
  have hz : ([V.ty "list", V.ty "tuple"] : List V).length ≤ sizeLine := by show 2 ≤ sizeLine; decide
  refine ⟨x, rfl, hz, fun t ht => ?_⟩
  have s1 := same_upd ht (.tup [.ty "list", .ty "tuple"])
  have R1 := R.same s1
  obtain ⟨k, tk, kk⟩ := R1.kit
  refine ⟨_, t, _, _, [.type "list", .type "tuple"], _, rfl, upd_same, .cons (.ty _) (.cons (.ty _) .nil), tk, kk, ?_⟩
  refine ⟨_, rfl, iteT ?_⟩
  generalize upd H t (.tup [.ty "list", .ty "tuple"]) = H1 at s1 R1 ⊢
  have turn : ∀ (D : Addr), H1 D = none → ∀ (i : Nat) (v : V) (H2 : Hp), i < p.length → (iv p)[i]? = some v → (Same H1 H2 ∧ H2 D = some (.lst (List.replicate i (V.bl true)))) →
      spInteger K [v] H2 (fun z H3 => ∃ acc, H3 D = some (.lst acc) ∧ acc.length < sizeLine ∧ Same H1 (upd H3 D (.lst (acc ++ [z]))) ∧ upd H3 D (.lst (acc ++ [z])) D = some (.lst (List.replicate (i + 1) (V.bl true)))) E0 := fun D hD i v H2 hi hv ⟨s2, h2⟩ => by
    obtain ⟨_, rfl⟩ := iv_get hv
    refine ⟨_, "int", true, false, rfl, .base (.int _), by decide +kernel, by decide +kernel, _, h2, by rw [List.length_replicate]; omega, fun b o hb => ?_, ?_⟩
    · rw [upd_ne (ne_of_none hb hD)]; exact s2 _ _ hb
    · rw [upd_same, List.replicate_succ']; rfl
  have last : ∀ (D : Addr) (H2 : Hp), Same H1 H2 → H2 D = some (.lst (List.replicate p.length (V.bl true))) → rAll K [.ref D] H2 Q := fun D H2 s2 h2 => by
    refine ⟨D, List.replicate p.length true, rfl, SqL.of (by rw [h2, List.map_replicate]), ?_⟩
    have e : (List.replicate p.length true).all id = true := by rw [List.all_eq_true]; intro b hb; exact (List.mem_replicate.mp hb).2
    rw [e]
    exact q H2 (s1.trans s2)
  obtain ⟨a, rfl, R | R⟩ := R1
  · refine .inl ⟨_, rfl, a, rfl, ⟨_, R⟩, fun D hD => ?_⟩
    refine lc_it (walk_list (K := K) (xs := iv p)) (fun i H2 => Same H1 H2 ∧ H2 D = some (.lst (List.replicate i (V.bl true)))) ⟨same_upd hD _, upd_same⟩ (fun i H2 _ h => h.1.seq R) (fun i v H2 H3 hi h hv => ?_) fun H2 h => ?_
    · obtain ⟨rfl, hv⟩ := hv
      rw [List.length_map] at hi
      exact ⟨rfl, _, rfl, turn D hD i v H3 hi hv h⟩
    · rw [List.length_map] at h
      exact last D H2 h.1 h.2
  · refine .inr ⟨_, rfl, a, rfl, ⟨_, R⟩, fun D hD => ?_⟩
    refine lc_it (walk_tup (K := K) (xs := iv p)) (fun i H2 => Same H1 H2 ∧ H2 D = some (.lst (List.replicate i (V.bl true)))) ⟨same_upd hD _, upd_same⟩ (fun i H2 _ h => sameT h.1 R) (fun i v H2 H3 hi h hv => ?_) fun H2 h => ?_
    · obtain ⟨rfl, hv⟩ := hv
      rw [List.length_map] at hi
      exact ⟨rfl, _, rfl, turn D hD i v H3 hi hv h⟩
    · rw [List.length_map] at h
      exact last D H2 h.1 h.2
theorem ok_reducedP {f g1 g2 g3 : Addr} {fd d1 d2 d3 : FuncData} (F : Fun K "reduced" "reduced" sReduced f fd) (T : PolT K w mg) (GT : Df P w K mg base 1 g1 d1 "trimmed" ["row"] (spTrimmed K)) (GO : Df P w K mg base 1 g2 d2 "order_of" ["row"] (spOrderOf K)) (GC : Df P w K mg base 3 g3 d3 "cancelled" ["one", "other"] (spCanc K)) : FnOk P w K mg base CX0 4 f fd ["top", "bottom"] (spReducedP K) := by
  refine F.ok scReduced (fun vs H Q E h => ?_) (fun cdv A outer s H vs Q E hr h => ?_)
  · obtain ⟨x, y, p, q, rfl, _⟩ := h
    rfl
  obtain ⟨x, y, p, q, rfl, Rx, Ry, I1, I2, Sb1, tq, qq⟩ := h
  have hsz : 1000000 < sizeLine := by decide
  refine ⟨_, (pss_cons (ps_set (i := 2) scReduced.nd rfl (by first | exact Or.inl rfl | exact Or.inr rfl) (pe_call GT.ok (hr.mono (by decide)) (by rfl) GT.m GT.kp GT.b .nil pass0 (pa_cons (pv 0) pa_nil)))
 (pss_cons (ps_set (i := 3) scReduced.nd rfl (by first | exact Or.inl rfl | exact Or.inr rfl) (pe_call GT.ok (hr.mono (by decide)) (by rfl) GT.m GT.kp GT.b .nil pass0 (pa_cons (pv 1) pa_nil)))
 (pss_cons (ps_if (pt_not (pt_truth (pv 2) (by intro _; rfl)))
 (pss_one (ps_ret (pe_tup (pa_cons (pe_lst pa_nil) (pa_cons (pe_lst (pa_cons pe_int pa_nil)) pa_nil)))))
 pss_nil)
 (pss_cons (ps_set (i := 4) scReduced.nd rfl (by first | exact Or.inl rfl | exact Or.inr rfl) (pe_call GO.ok (hr.mono (by decide)) (by rfl) GO.m GO.kp GO.b .nil pass0 (pa_cons (pv 2) pa_nil)))
 (pss_cons (ps_if (PW.pt (pw_or (pt_cmpR op_eq (pe_callB call_len_seq (by rfl) T.len PySem.boot_len (pa_cons (pv 2) pa_nil)) (pe_op op_add (pv 4) pe_int) (nomark _)) (pw_or1 (pt_cmpR op_eq (pe_callB call_len_seq (by rfl) T.len PySem.boot_len (pa_cons (pv 3) pa_nil)) pe_int (nomark _)))))
 (pss_one (ps_ret (pe_tup (pa_cons (pv 2) (pa_cons (pv 3) pa_nil)))))
 pss_nil)
 (pss_cons (ps_asg (pe_call GC.ok (hr.mono (by decide)) (by rfl) GC.m GC.kp GC.b .nil pass0 (pa_cons (pe_slice sl_list (pv 2) (po_some (pv 4)) po_none) (pa_cons (pv 3) pa_nil))) (pg_tup (by rfl) (pgs_cons (pg_name (i := 5) scReduced.nd rfl (by first | exact Or.inl rfl | exact Or.inr rfl)) (pgs_cons (pg_name (i := 6) scReduced.nd rfl (by first | exact Or.inl rfl | exact Or.inr rfl)) pgs_nil))))
 (pss_one (ps_ret (pe_tup (pa_cons (pe_op op_cat (pe_op op_rep (pe_lst (pa_cons pe_int pa_nil)) (pv 4)) (pv 5)) (pa_cons (pv 6) pa_nil))))))))))), ?_⟩
  refine ⟨x, rfl, x, p, rfl, Rx, by omega, fun b1 H1 s1 hb1 h1 => ?_⟩
  have Ry1 : RowV K H1 y q := Ry.same s1
  refine ⟨y, rfl, y, q, rfl, Ry1, by omega, fun b2 H2 s2 hb2 h2 => ?_⟩
  have s12 := s1.trans s2
  have h1' := s2 _ _ h1
  have hb2' : H b2 = none := s1.free hb2
  have tl1 := SerM.trim_len p
  have tl2 := SerM.trim_len q
  refine ⟨_, rfl, _, .inl ⟨_, SqL.of h1', rfl⟩, ?_⟩
  refine ite2 (fun ce => ?_) (fun ce => ?_)
  · have e0 : SerM.trim p = [] := by
      cases e : SerM.trim p with
      | nil => rfl
      | cons z zs => rw [e] at ce; cases ce
    refine ⟨(by show 0 ≤ sizeLine; decide), fun l hl => ⟨(by show 1 ≤ sizeLine; decide), fun l2 hl2 => ⟨(by show 2 ≤ sizeLine; decide), fun t ht => ?_⟩⟩⟩
    have s3 := ((s12.trans (same_upd hl (.lst []))).trans (same_upd hl2 (.lst [V.int 1])))
    refine qq [] [1] (SerM.red_nil e0) t l l2 _ (s3.trans (same_upd ht _)) upd_same ?_ ?_ (s12.free hl) ((s12.trans (same_upd hl (.lst []))).free hl2)
    · have n1 : l ≠ l2 := ne_of_none upd_same hl2
      rw [upd_ne (ne_of_none (by rw [upd_ne n1, upd_same]) ht), upd_ne n1, upd_same]; rfl
    · rw [upd_ne (ne_of_none upd_same ht), upd_same]; rfl
  have ne : SerM.trim p ≠ [] := fun z => by rw [z] at ce; exact ce rfl
  refine ⟨_, rfl, b1, SerM.trim p, rfl, SqL.of h1', fun k H3 s3 hk kn kz => ?_, fun hz => absurd (hz _) (by
    have l := SerM.tm_lead (SerM.trim_tm p) ne
    rw [l.at_]; exact l.ne)⟩
  have s13 := s12.trans s3
  have h13 := s3 _ _ h1'
  have h23 := s3 _ _ h2
  have er := zp_of (Nat.le_of_lt hk) kz
  have rn : (SerM.trim p).drop k ≠ [] := fun z => by
    have := congrArg List.length z
    rw [List.length_drop] at this
    exact absurd this (by show _ ≠ 0; omega)
  have rt : SerM.Tm ((SerM.trim p).drop k) := fun n2 => by
    rw [List.getLast_drop]
    exact SerM.trim_tm p ne
  have plain : SerM.Red p q (SerM.trim p) (SerM.trim q) → ∀ (H4 : Hp), H4 = H3 → tRet (tTup (tCons (tVar 2) (tCons (tVar 3) tNil))) { nx := fun x H' => Q V.non H', rt := Q } [some x, some y, some (.ref b1), some (.ref b2), some (.int (k : Int)), none, none] H4 := fun R H4 e4 => by
    subst e4
    refine ⟨_, rfl, _, rfl, (by show 2 ≤ sizeLine; decide), fun t ht => ?_⟩
    exact qq _ _ R t b1 b2 _ (s13.trans (same_upd ht _)) upd_same (by rw [upd_ne (ne_of_none h13 ht)]; exact h13) (by rw [upd_ne (ne_of_none h23 ht)]; exact h23) hb1 hb2'
  refine ⟨_, rfl, b1, _, rfl, .inl (SqL.of h13), _, rfl, _, _, rfl, rfl, rfl, _, rfl, ?_⟩
  rw [dec_int, List.length_map]
  refine ite2 (fun c1 => ?_) (fun c1 => ?_)
  · have e1 : (SerM.trim p).length = k + 1 := by have := eq_of_beq c1; omega
    obtain ⟨a, ea⟩ : ∃ a, (SerM.trim p).drop k = [a] := by
      have : ((SerM.trim p).drop k).length = 1 := by rw [List.length_drop]; omega
      match (SerM.trim p).drop k, this with
      | [a], _ => exact ⟨a, rfl⟩
    rw [ea] at er
    exact plain (SerM.red_mono Sb1 (fun z => kn (by rw [er]; exact (SerM.co_zp k [a] 0).trans (by rw [z]; rfl))) er) _ rfl
  refine ⟨_, rfl, b2, _, rfl, .inl (SqL.of h23), rfl, _, rfl, ?_⟩
  rw [dec_int, List.length_map]
  refine ite2 (fun c2 => ?_) (fun c2 => ?_)
  · have e1 : (SerM.trim q).length = 1 := by have := eq_of_beq c2; omega
    exact plain (SerM.red_plain Sb1 e1) _ rfl
  exact (c2 (by rw [tq]; rfl)).elim
theorem ok_serP {f C g1 g2 g3 : Addr} {fd d1 d2 d3 : FuncData} {dvs : List V} (F : FunD K "__init__" "Series.__init__" (defArgs sS_init) (defBody sS_init) (defScope sS_init) dvs [] f fd) (C' : SerC K C) (GW : Df P w K mg base 2 g1 d1 "is_row" ["value"] (spIsRowL K)) (GR : Df P w K mg base 4 g2 d2 "reduced" ["top", "bottom"] (spReducedP K)) (GO : Df P w K mg base 1 g3 d3 "order_of" ["row"] (spOrderOf K)) :
    FnOk P w K mg base CX0 5 f fd serPs (spSerP K C) := by
  refine F.ok scS_init (fun vs H Q E h => ?_) (fun cdv A outer s H vs Q E hr h => ?_)
  · obtain ⟨a, dx, x, y, p, q, rfl, _⟩ := h
    rfl
  obtain ⟨a, dx, x, y, p, q, rfl, ha, Rx, Ry, I1, I2, Sb1, tq, qq⟩ := h
  refine ⟨_, (pss_cons (ps_if (PW.pt (pw_or (pt_not (pt_val (pe_call GW.ok (hr.mono (by decide)) (by rfl) GW.m GW.kp GW.b .nil pass0 (pa_cons (pv 1) pa_nil)))) (pw_or (pt_not (pt_val (pe_call GW.ok (hr.mono (by decide)) (by rfl) GW.m GW.kp GW.b .nil pass0 (pa_cons (pv 2) pa_nil)))) (pw_or (pt_not (pt_truth (pv 2) (by intro _; rfl))) (pw_or1 (pt_cmpR op_ne (pe_ix ix_seq (pv 2) pe_int (fun _ _ => rfl)) pe_int (nomark _)))))))
 pss_never
 pss_nil)
 (pss_cons (ps_asg (pe_call GR.ok (hr.mono (by decide)) (by rfl) GR.m GR.kp GR.b .nil pass0 (pa_cons (pv 1) (pa_cons (pv 2) pa_nil))) (pg_tup (by rfl) (pgs_cons (pg_fld (pv 0)) (pgs_cons (pg_fld (pv 0)) pgs_nil))))
 (pss_one (ps_fld (pv 0) (pe_call GO.ok (hr.mono (by decide)) (by rfl) GO.m GO.kp GO.b .nil pass0 (pa_cons (pe_fld (pv 0) rfl) pa_nil)) rfl)))), ?_⟩
  refine ⟨x, rfl, x, p, rfl, Rx, by omega, fun H1 s1 => ?_⟩
  refine ⟨_, rfl, iteF ?_⟩
  refine ⟨y, rfl, y, q, rfl, Ry.same s1, by omega, fun H2 s2' => ?_⟩
  refine ⟨_, rfl, iteF ?_⟩
  have s2 := s1.trans s2'
  have Ry2 := Ry.same s2
  have q0 : SerM.co q 0 = 1 := by rw [SerM.co0_ev]; exact Sb1
  have ql : 0 < q.length := Nat.pos_of_ne_zero fun z => by
    rw [List.length_eq_zero_iff.mp z, SerM.co_nil] at q0; omega
  refine ⟨y, rfl, _, Ry2.tru, ?_⟩
  have qe : q.isEmpty = false := by cases q <;> first | rfl | exact absurd ql (Nat.not_lt_zero _)
  rw [qe]
  refine iteF ?_
  refine ⟨y, rfl, ?_⟩
  refine Ry2.ix (i := 0) rfl ql ⟨rfl, _, rfl, ?_⟩
  rw [q0]
  refine iteF ?_
  have ha2 := s2 _ _ ha
  refine ⟨x, rfl, y, rfl, x, y, p, q, rfl, Rx.same s2, Ry2, I1, I2, Sb1, tq, fun u v R t tx ty H3 s3 ht hx hy hx0 hy0 => ?_⟩
  have ha3 := s3 _ _ ha2
  have nx : tx ≠ a := fun e => by rw [e, ha2] at hx0; cases hx0
  have ny : ty ≠ a := fun e => by rw [e, ha2] at hy0; cases hy0
  refine ⟨t, _, rfl, SqT.of ht, rfl, _, _, rfl, _, rfl, a, C, dx, _, rfl, ha3, C'.cl, C'.t, (by show (0 : Nat) < 1000; decide), ?_⟩
  refine ⟨_, _, rfl, _, rfl, a, C, dx, _, rfl, upd_same, C'.cl, C'.b, (by show (1 : Nat) < 1000; decide), rfl, ?_⟩
  refine ⟨_, rfl, a, C, dx, _, _, rfl, upd_same, C'.cl, C'.t, rfl, ?_⟩
  have hx5 : upd (upd H3 a (.ins C dx (putF "_top" (.ref tx) []))) a (.ins C dx (putF "_bottom" (.ref ty) (putF "_top" (.ref tx) []))) tx = some (.lst (iv u)) := by rw [upd_ne nx, upd_ne nx]; exact hx
  have hy5 : upd (upd H3 a (.ins C dx (putF "_top" (.ref tx) []))) a (.ins C dx (putF "_bottom" (.ref ty) (putF "_top" (.ref tx) []))) ty = some (.lst (iv v)) := by rw [upd_ne ny, upd_ne ny]; exact hy
  have hk : ∀ b o, b ≠ a → H b = some o → upd (upd H3 a (.ins C dx (putF "_top" (.ref tx) []))) a (.ins C dx (putF "_bottom" (.ref ty) (putF "_top" (.ref tx) []))) b = some o := fun b o n hb => by rw [upd_ne n, upd_ne n]; exact s3 _ _ (s2 _ _ hb)
  have ha5 : upd (upd H3 a (.ins C dx (putF "_top" (.ref tx) []))) a (.ins C dx (putF "_bottom" (.ref ty) (putF "_top" (.ref tx) []))) a = some (.ins C dx (putF "_bottom" (.ref ty) (putF "_top" (.ref tx) []))) := upd_same
  generalize upd (upd H3 a (.ins C dx (putF "_top" (.ref tx) []))) a (.ins C dx (putF "_bottom" (.ref ty) (putF "_top" (.ref tx) []))) = H5 at hx5 hy5 hk ha5 ⊢
  have fin : ∀ (z : V) (H6 : Hp), Same H5 H6 → OrdV u z → Q .non (upd H6 a (.ins C dx (putF "order" z (putF "_bottom" (.ref ty) (putF "_top" (.ref tx) []))))) := fun z H6 s6 oz => by
    refine qq u v _ R (fun b o n hb => ?_) ⟨dx, tx, ty, z, upd_same, ?_, ?_, oz, s2.free hx0, s2.free hy0⟩
    · rw [upd_ne n]; exact s6 _ _ (hk b o n hb)
    · rw [upd_ne nx]; exact s6 _ _ hx5
    · rw [upd_ne ny]; exact s6 _ _ hy5
  refine ⟨tx, u, rfl, SqL.of hx5, fun k H6 s6 k1 k2 k3 => ?_, fun hz H6 s6 => ?_⟩
  · exact ⟨_, rfl, a, C, dx, _, rfl, s6 _ _ ha5, C'.cl, C'.o, (by show (2 : Nat) < 1000; decide), fin _ H6 s6 (.inl ⟨k, k1, k2, k3, rfl⟩)⟩
  · exact ⟨_, rfl, a, C, dx, _, rfl, s6 _ _ ha5, C'.cl, C'.o, (by show (2 : Nat) < 1000; decide), fin _ H6 s6 (.inr ⟨hz, rfl⟩)⟩
end
end Un
namespace Un
open PySem L2 TL
section
variable {P : Program} {w : World} {K : PySem.W.Frag} {mg : Str → Option Value} {base : Heap}
/-! ### 1000 beats -/
open XV
structure Rw (H : Hp) (C a dx x y : Addr) (o : V) (u v : SerM.Po) : Prop where
  ha : H a = some (.ins C dx (serFs x y o))
  hx : H x = some (.lst (iv u))
  hy : H y = some (.lst (iv v))
  ord : OrdV u o
theorem Rw.same {H H' : Hp} {C a dx x y : Addr} {o : V} {u v : SerM.Po} (h : Rw H C a dx x y o u v) (s : Same H H') : Rw H' C a dx x y o u v := ⟨s _ _ h.ha, s _ _ h.hx, s _ _ h.hy, h.ord⟩
structure MakP (P : Program) (w : World) (K : PySem.W.Frag) (mg : Str → Option Value) (base : Heap) (C : Addr) (fI : Addr) (fd : FuncData) (d : V) (dv : List Value) : Prop where
  mkS : Mk K C fI
  ok : FnOk P w K mg base CX0 5 fI fd serPs (spSerP K C)
  m : mg "Series" = some (.ref C)
  b2 : Binds K fd serPs []
  b1 : Binds K fd serPs dv
  dS : Vals [d] dv
  row : ∀ H, RowV K H d [1]
theorem ser_madeP {C a dx : Addr} {H : Hp} {x y : V} {p : SerM.Po} {R : Hp → Prop} (ha : H a = none) (hdx : H dx = none) (ne : dx ≠ a) (Rx : RowV K H x p) (Ry : RowV K H y [1]) (pl : p.length ≤ 2000) (h : ∀ (H' : Hp), Same H H' → SerAt H' C a (SerM.trim p) [1] → R H') :
    spSerP K C [.ref a, x, y] (upd (upd H dx (.own a)) a (.ins C dx [])) (fun v H2 => v = .non ∧ R H2) E0 := by
  have h1 : upd H dx (.own a) a = none := by rw [upd_ne ne.symm]; exact ha
  have s : Same H (upd (upd H dx (.own a)) a (.ins C dx [])) := (same_upd hdx _).trans (same_upd h1 _)
  refine ⟨a, dx, x, y, p, [1], rfl, upd_same, Rx.same s, Ry.same s, pl, by decide, rfl, rfl, fun u v H' R keep S => ⟨rfl, h H' (fun b o hb => ?_) ?_⟩⟩
  · exact keep b o (ne_of_none hb ha) (s b o hb)
  · obtain ⟨rfl, rfl⟩ := SerM.red_uniq rfl R (SerM.red_plain rfl rfl)
    exact S.at_
def spLateP (C : Addr) : Sp := fun vs H Q _ => ∃ (a : Addr) (u : SerM.Po) (n : Nat), vs = [.ref a, .int n] ∧ SerAt H C a u [1] ∧ n ≤ 1000 ∧ u.length ≤ 500 ∧ ∀ b H', Same H H' → SerAt H' C b (SerM.trim (zs n u)) [1] → Q (.ref b) H'
def spEarlyP (C : Addr) : Sp := fun vs H Q _ => ∃ (a : Addr) (u : SerM.Po) (n : Nat), vs = [.ref a, .int n] ∧ SerAt H C a u [1] ∧ n ≤ 1000 ∧ u.length ≤ 500 ∧ ∀ b H', Same H H' → SerAt H' C b (SerM.trim (u.drop n)) [1] → Q (.ref b) H'
def spDlyP (C : Addr) : Sp := fun vs H Q _ => ∃ n : Nat, vs = [.int n] ∧ n ≤ 1000 ∧ ∀ b H', Same H H' → SerAt H' C b (SerM.trim (zs n [1])) [1] → Q (.ref b) H'
theorem ok_delayedP {f C fI f1 f2 : Addr} {fd dI e1 e2 : FuncData} {d : V} {dv : List Value} (F : Fun K "delayed" "delayed" sDelayed f fd) (C' : SerC K C) (M : MakP P w K mg base C fI dI d dv) (MT : Mt P w K mg base C 1 f1 e1 "top" ["self"] (spTopM C)) (MB : Mt P w K mg base C 1 f2 e2 "bottom" ["self"] (spBotM C)) : FnOk P w K mg base CX0 7 f fd ["series", "beats"] (spLateP C) := by
  refine F.ok scDelayed (fun vs H Q E h => ?_) (fun cdv A outer s H vs Q E hr h => ?_)
  · obtain ⟨a, u, n, rfl, _⟩ := h
    rfl
  obtain ⟨a, u, n, rfl, S, hn, hu, q⟩ := h
  obtain ⟨mkS, okS, mC, bS2, bS1, dS, rowS⟩ := M
  have hsz : 1000000 < sizeLine := by decide
  refine ⟨_, (pss_one (ps_ret (pe_make mkS okS (hr.mono (by decide)) (by rfl) mC bS2 .nil pass0 (pa_cons (pe_op op_cat (pe_op op_rep (pe_lst (pa_cons pe_int pa_nil)) (pv 1)) (pe_meth0 (pv 0) C'.cl MT.mt MT.ok (hr.mono (by decide)) MT.b .nil pass0)) (pa_cons (pe_meth0 (pv 0) C'.cl MB.mt MB.ok (hr.mono (by decide)) MB.b .nil pass0) pa_nil))))), ?_⟩
  obtain ⟨v, ev⟩ : ∃ v : SerM.Po, v = [1] := ⟨_, rfl⟩
  rw [← ev] at S
  have vl : v.length = 1 := by rw [ev]; rfl
  obtain ⟨dx, x, y, o, R1, R2, R3, R4⟩ := S
  have R : Rw H C a dx x y o u v := ⟨R1, R2, R3, R4⟩
  refine ⟨(by show 1 ≤ sizeLine; decide), fun l1 hl1 => ?_⟩
  have s1 := same_upd hl1 (.lst [V.int 0])
  have g1 : upd H l1 (.lst [V.int 0]) l1 = some (.lst [V.int 0]) := upd_same
  have R := R.same s1
  generalize upd H l1 (.lst [V.int 0]) = H1 at s1 g1 R ⊢
  refine ⟨_, rfl, l1, _, _, rfl, rfl, g1, (by omega), (by omega), (by show 1 * _ ≤ _; omega), fun l2 hl2 => ?_⟩
  have en : ((n : Int)).toNat = n := Int.toNat_natCast n
  rw [en, rep_one]
  have s2 := same_upd hl2 (.lst (List.replicate n (V.int 0)))
  have g2 : upd H1 l2 (.lst (List.replicate n (V.int 0))) l2 = some (.lst (List.replicate n (V.int 0))) := upd_same
  have R := R.same s2
  generalize upd H1 l2 (.lst (List.replicate n (V.int 0))) = H2 at s2 g2 R ⊢
  refine ⟨_, rfl, a, dx, _, rfl, R.ha, rfl, a, u, v, rfl, ⟨dx, x, y, o, R.ha, R.hx, R.hy, R.ord⟩, fun l3 hl3 => ?_⟩
  have s3 := same_upd hl3 (.lst (iv u))
  have g3 : upd H2 l3 (.lst (iv u)) l3 = some (.lst (iv u)) := upd_same
  have g2 := s3 _ _ g2
  have R := R.same s3
  generalize upd H2 l3 (.lst (iv u)) = H3 at s3 g2 g3 R ⊢
  refine ⟨l2, l3, _, _, rfl, rfl, g2, g3, (by rw [List.length_map, List.length_replicate]; omega), fun l4 hl4 => ?_⟩
  have em : List.replicate n (V.int 0) ++ iv u = iv (zs n u) := by
    show _ = List.map V.int (_ ++ _)
    rw [List.map_append, List.map_replicate]
  rw [em]
  have s4 := same_upd hl4 (.lst (iv (zs n u)))
  have g4 : upd H3 l4 (.lst (iv (zs n u))) l4 = some (.lst (iv (zs n u))) := upd_same
  have R := R.same s4
  generalize upd H3 l4 (.lst (iv (zs n u))) = H4 at s4 g4 R ⊢
  refine ⟨_, rfl, a, dx, _, rfl, R.ha, rfl, a, u, v, rfl, ⟨dx, x, y, o, R.ha, R.hx, R.hy, R.ord⟩, fun l5 hl5 => ?_⟩
  have s5 := same_upd hl5 (.lst (iv v))
  have g5 : upd H4 l5 (.lst (iv v)) l5 = some (.lst (iv v)) := upd_same
  have g4 := s5 _ _ g4
  generalize upd H4 l5 (.lst (iv v)) = H5 at s5 g5 g4 ⊢
  have s15 := s1.trans (s2.trans (s3.trans (s4.trans s5)))
  intro sa sd hsa hsd sne
  refine ser_madeP (C := C) hsa hsd sne (RowV.lst g4) (ev ▸ RowV.lst g5) (by rw [List.length_append, List.length_replicate]; omega) fun H6 s6 V' => q sa H6 (s15.trans s6) V'
theorem ok_hastenedP {f C fI f1 f2 : Addr} {fd dI e1 e2 : FuncData} {d : V} {dv : List Value} (F : Fun K "hastened" "hastened" sHastened f fd) (C' : SerC K C) (M : MakP P w K mg base C fI dI d dv) (MT : Mt P w K mg base C 1 f1 e1 "top" ["self"] (spTopM C)) (MB : Mt P w K mg base C 1 f2 e2 "bottom" ["self"] (spBotM C)) : FnOk P w K mg base CX0 7 f fd ["series", "beats"] (spEarlyP C) := by
  refine F.ok scHastened (fun vs H Q E h => ?_) (fun cdv A outer s H vs Q E hr h => ?_)
  · obtain ⟨a, u, n, rfl, _⟩ := h
    rfl
  obtain ⟨a, u, n, rfl, S, hn, hu, q⟩ := h
  obtain ⟨mkS, okS, mC, bS2, bS1, dS, rowS⟩ := M
  have hsz : 1000000 < sizeLine := by decide
  refine ⟨_, (pss_one (ps_ret (pe_make mkS okS (hr.mono (by decide)) (by rfl) mC bS2 .nil pass0 (pa_cons (pe_slice sl_list (pe_meth0 (pv 0) C'.cl MT.mt MT.ok (hr.mono (by decide)) MT.b .nil pass0) (po_some (pv 1)) po_none) (pa_cons (pe_meth0 (pv 0) C'.cl MB.mt MB.ok (hr.mono (by decide)) MB.b .nil pass0) pa_nil))))), ?_⟩
  obtain ⟨v, ev⟩ : ∃ v : SerM.Po, v = [1] := ⟨_, rfl⟩
  rw [← ev] at S
  have vl : v.length = 1 := by rw [ev]; rfl
  obtain ⟨dx, x, y, o, R1, R2, R3, R4⟩ := S
  have R : Rw H C a dx x y o u v := ⟨R1, R2, R3, R4⟩
  refine ⟨_, rfl, a, dx, _, rfl, R.ha, rfl, a, u, v, rfl, ⟨dx, x, y, o, R.ha, R.hx, R.hy, R.ord⟩, fun l3 hl3 => ?_⟩
  have s3 := same_upd hl3 (.lst (iv u))
  have g3 : upd H l3 (.lst (iv u)) l3 = some (.lst (iv u)) := upd_same
  have R := R.same s3
  generalize upd H l3 (.lst (iv u)) = H3 at s3 g3 R ⊢
  refine ⟨_, rfl, _, rfl, l3, _, rfl, SqL.of g3, fun l4 hl4 => ?_⟩
  have ecut : cutV (iv u) (some (n : Int)) none = iv (u.drop n) := by
    unfold cutV
    have e2 : HT.sIx (iv u).length (iv u).length none = (iv u).length := rfl
    rw [HT.sIx_nat, e2]
    by_cases hh : n ≤ (iv u).length
    · rw [Nat.min_eq_left hh, List.take_of_length_le (by rw [List.length_drop]; omega)]
      exact List.map_drop.symm
    · have h1 : u.drop n = [] := List.drop_eq_nil_of_le (by rw [List.length_map] at hh; omega)
      rw [h1, Nat.min_eq_right (by omega), List.drop_eq_nil_of_le (Nat.le_refl _)]
      simp [iv]
  rw [ecut]
  have s4 := same_upd hl4 (.lst (iv (u.drop n)))
  have g4 : upd H3 l4 (.lst (iv (u.drop n))) l4 = some (.lst (iv (u.drop n))) := upd_same
  have R := R.same s4
  generalize upd H3 l4 (.lst (iv (u.drop n))) = H4 at s4 g4 R ⊢
  refine ⟨_, rfl, a, dx, _, rfl, R.ha, rfl, a, u, v, rfl, ⟨dx, x, y, o, R.ha, R.hx, R.hy, R.ord⟩, fun l5 hl5 => ?_⟩
  have s5 := same_upd hl5 (.lst (iv v))
  have g5 : upd H4 l5 (.lst (iv v)) l5 = some (.lst (iv v)) := upd_same
  have g4 := s5 _ _ g4
  generalize upd H4 l5 (.lst (iv v)) = H5 at s5 g5 g4 ⊢
  have s15 := s3.trans (s4.trans s5)
  intro sa sd hsa hsd sne
  refine ser_madeP (C := C) hsa hsd sne (RowV.lst g4) (ev ▸ RowV.lst g5) (by rw [List.length_drop]; omega) fun H6 s6 V' => q sa H6 (s15.trans s6) V'
theorem ok_delayP {f C fI g1 : Addr} {fd dI d1 : FuncData} {d : V} {dv : List Value} {tb : Tok} (F : Fun K "delay" "Series.delay" sS_delay f fd) (M : MakP P w K mg base C fI dI d dv) (mb : mg "MOST_BEATS" = some (.int 1000 tb)) (GN : Df P w K mg base 2 g1 d1 "is_number" ["value", "least", "most"] (spNumber K)) : FnOk P w K mg base CX0 7 f fd ["d"] (spDlyP C) := by
  refine F.ok scS_delay (fun vs H Q E h => ?_) (fun cdv A outer s H vs Q E hr h => ?_)
  · obtain ⟨n, rfl, _⟩ := h
    rfl
  obtain ⟨n, rfl, hn, q⟩ := h
  obtain ⟨mkS, okS, mC, bS2, bS1, dS, rowS⟩ := M
  have hsz : 1000000 < sizeLine := by decide
  refine ⟨_, (pss_cons (ps_if (pt_not (pt_val (pe_call GN.ok (hr.mono (by decide)) (by rfl) GN.m GN.kp GN.b .nil pass0 (pa_cons (pv 0) (pa_cons pe_int (pa_cons (pe_glob (v := .int 1000) (by rfl) mb ⟨_, rfl⟩) pa_nil))))))
 pss_never
 pss_nil)
 (pss_one (ps_ret (pe_make mkS okS (hr.mono (by decide)) (by rfl) mC bS1 dS pass0 (pa_cons (pe_op op_cat (pe_op op_rep (pe_lst (pa_cons pe_int pa_nil)) (pv 0)) (pe_lst (pa_cons pe_int pa_nil))) pa_nil))))), ?_⟩
  refine ⟨_, rfl, _, 0, 1000, rfl, .inl ⟨_, rfl, ?_⟩⟩
  rw [decide_eq_true (show (0 : Int) ≤ (n : Int) by omega), decide_eq_true (show (n : Int) ≤ 1000 by omega)]
  refine ⟨_, rfl, iteF ?_⟩
  refine ⟨(by show 1 ≤ sizeLine; decide), fun l1 hl1 => ?_⟩
  have s1 := same_upd hl1 (.lst [V.int 0])
  have g1 : upd H l1 (.lst [V.int 0]) l1 = some (.lst [V.int 0]) := upd_same
  generalize upd H l1 (.lst [V.int 0]) = H1 at s1 g1 ⊢
  refine ⟨_, rfl, l1, _, _, rfl, rfl, g1, (by omega), (by omega), (by show 1 * _ ≤ _; omega), fun l2 hl2 => ?_⟩
  rw [Int.toNat_natCast n, rep_one]
  have s2 := same_upd hl2 (.lst (List.replicate n (V.int 0)))
  have g2 : upd H1 l2 (.lst (List.replicate n (V.int 0))) l2 = some (.lst (List.replicate n (V.int 0))) := upd_same
  generalize upd H1 l2 (.lst (List.replicate n (V.int 0))) = H2 at s2 g2 ⊢
  refine ⟨(by show 1 ≤ sizeLine; decide), fun l3 hl3 => ?_⟩
  have s3 := same_upd hl3 (.lst [V.int 1])
  have g3 : upd H2 l3 (.lst [V.int 1]) l3 = some (.lst [V.int 1]) := upd_same
  have g2 := s3 _ _ g2
  generalize upd H2 l3 (.lst [V.int 1]) = H3 at s3 g2 g3 ⊢
  refine ⟨l2, l3, _, _, rfl, rfl, g2, g3, (by rw [List.length_replicate]; show n + 1 ≤ _; omega), fun l4 hl4 => ?_⟩
  have em : List.replicate n (V.int 0) ++ [V.int 1] = iv (zs n [1]) := by
    show _ = List.map V.int (_ ++ _)
    rw [List.map_append, List.map_replicate]; rfl
  rw [em]
  have s4 := same_upd hl4 (.lst (iv (zs n [1])))
  have g4 : upd H3 l4 (.lst (iv (zs n [1]))) l4 = some (.lst (iv (zs n [1]))) := upd_same
  generalize upd H3 l4 (.lst (iv (zs n [1]))) = H4 at s4 g4 ⊢
  have s14 := s1.trans (s2.trans (s3.trans s4))
  intro sa sd hsa hsd sne
  refine ser_madeP (C := C) hsa hsd sne (RowV.lst g4) (rowS _) (by rw [List.length_append, List.length_replicate]; show n + 1 ≤ 2000; omega) fun H6 s6 V' => q sa H6 (s14.trans s6) V'
end
end Un
namespace Un
open PySem L2 TL
section
variable {P : Program} {w : World} {K : PySem.W.Frag} {mg : Str → Option Value} {base : Heap}
/-! ### << and >> of 1000 beats -/
open XV
def spRsh0 (C : Addr) : Sp := fun vs H Q _ => ∃ (a : Addr) (n : Nat), vs = [.ref a, .int n] ∧ SerAt H C a [] [1] ∧ n ≤ 1000 ∧ ∀ b H', Same H H' → SerAt H' C b [] [1] → Q (.ref b) H'
theorem ok_lshP {f C g1 g2 : Addr} {fd d1 d2 : FuncData} {tb : Tok} (F : Fun K "__lshift__" "Series.__lshift__" sS_lsh f fd) (mb : mg "MOST_BEATS" = some (.int 1000 tb)) (GN : Df P w K mg base 2 g1 d1 "is_number" ["value", "least", "most"] (spNumber K)) (GD : Df P w K mg base 7 g2 d2 "delayed" ["series", "beats"] (spLateP C)) : FnOk P w K mg base CX0 8 f fd ["self", "other"] (spLateP C) := by
  refine F.ok scS_lsh (fun vs H Q E h => ?_) (fun cdv A outer s H vs Q E hr h => ?_)
  · obtain ⟨a, u, n, rfl, _⟩ := h
    rfl
  obtain ⟨a, u, n, rfl, S, hn, L⟩ := h
  refine ⟨_, (pss_cons (ps_if (pt_not (pt_val (pe_call GN.ok (hr.mono (by decide)) (by rfl) GN.m GN.kp GN.b .nil pass0 (pa_cons (pv 1) (pa_cons pe_int (pa_cons (pe_glob (v := .int 1000) (by rfl) mb ⟨_, rfl⟩) pa_nil))))))
 pss_never
 pss_nil)
 (pss_one (ps_ret (pe_call GD.ok (hr.mono (by decide)) (by rfl) GD.m GD.kp GD.b .nil pass0 (pa_cons (pv 0) (pa_cons (pv 1) pa_nil)))))), ?_⟩
  refine ⟨_, rfl, _, 0, 1000, rfl, .inl ⟨_, rfl, ?_⟩⟩
  rw [decide_eq_true (show (0 : Int) ≤ (n : Int) by omega), decide_eq_true (show (n : Int) ≤ 1000 by omega)]
  refine ⟨_, rfl, iteF ?_⟩
  exact ⟨_, rfl, _, rfl, a, u, n, rfl, S, hn, L⟩
theorem ok_rshP {f C g1 g2 : Addr} {fd d1 d2 : FuncData} {tb : Tok} (F : Fun K "__rshift__" "Series.__rshift__" sS_rsh f fd) (C' : SerC K C) (mb : mg "MOST_BEATS" = some (.int 1000 tb)) (GN : Df P w K mg base 2 g1 d1 "is_number" ["value", "least", "most"] (spNumber K)) (GH : Df P w K mg base 7 g2 d2 "hastened" ["series", "beats"] (spEarlyP C)) : FnOk P w K mg base CX0 8 f fd ["self", "other"] (spRsh0 C) := by
  refine F.ok scS_rsh (fun vs H Q E h => ?_) (fun cdv A outer s H vs Q E hr h => ?_)
  · obtain ⟨a, n, rfl, _⟩ := h
    rfl
  obtain ⟨a, n, rfl, S, hn, q⟩ := h
  refine ⟨_, (pss_cons (ps_if (pt_not (pt_val (pe_call GN.ok (hr.mono (by decide)) (by rfl) GN.m GN.kp GN.b .nil pass0 (pa_cons (pv 1) (pa_cons pe_int (pa_cons (pe_glob (v := .int 1000) (by rfl) mb ⟨_, rfl⟩) pa_nil))))))
 pss_never
 pss_nil)
 (pss_cons (ps_if (PW.pt (pw_and (pt_cmpR op_notN (pe_fld (pv 0) rfl) pe_non (nomark _)) (pw_and1 (pt_cmpR op_lt (pe_fld (pv 0) rfl) (pv 1) (nomark _)))))
 pss_never
 pss_nil)
 (pss_one (ps_ret (pe_call GH.ok (hr.mono (by decide)) (by rfl) GH.m GH.kp GH.b .nil pass0 (pa_cons (pv 0) (pa_cons (pv 1) pa_nil))))))), ?_⟩
  refine ⟨_, rfl, _, 0, 1000, rfl, .inl ⟨_, rfl, ?_⟩⟩
  rw [decide_eq_true (show (0 : Int) ≤ (n : Int) by omega), decide_eq_true (show (n : Int) ≤ 1000 by omega)]
  refine ⟨_, rfl, iteF ?_⟩
  obtain ⟨dx, x, y, o, R1, R2, R3, R4⟩ := id S
  obtain rfl : o = .non := by
    rcases R4 with ⟨k, k1, _⟩ | ⟨_, h⟩
    · exact absurd k1 (Nat.not_lt_zero _)
    · exact h
  refine ⟨_, rfl, a, C, dx, _, _, rfl, R1, C'.cl, C'.o, rfl, rfl, ?_⟩
  rw [decide_eq_true rfl]
  refine ⟨_, rfl, iteF ?_⟩
  refine ⟨_, rfl, _, rfl, a, [], n, rfl, S, hn, by decide, fun b H' s' V' => q b H' s' ?_⟩
  rw [List.drop_nil] at V'
  exact V'
theorem trim_zs (n : Nat) : SerM.trim (zs n [1]) = zs n [1] := SerM.trim_id fun h => by
  have e : (zs n [1]).getLast h = 1 := by simp [zs]
  rw [e]
  decide
theorem ord_zs {n : Nat} {o : V} (h : OrdV (zs n [1]) o) : o = .int n := by
  rcases h with ⟨k, k1, k2, k3, rfl⟩ | ⟨hz, _⟩
  · rw [co_zs] at k2
    by_cases e : k < n
    · rw [if_pos e] at k2; exact absurd rfl k2
    · by_cases e2 : k = n
      · rw [e2]
      · have := k3 n (by omega)
        rw [co_zs, if_neg (by omega), Nat.sub_self] at this
        exact absurd this (by decide)
  · have := hz n
    rw [co_zs, if_neg (by omega), Nat.sub_self] at this
    exact absurd this (by decide)
theorem zs_zs (n m : Nat) (p : SerM.Po) : zs n (zs m p) = zs (n + m) p := by
  show List.replicate n 0 ++ (List.replicate m 0 ++ p) = List.replicate (n + m) 0 ++ p
  rw [← List.append_assoc, List.replicate_append_replicate]
end
end Un
namespace Un
open PySem L2 TL
section
variable {P : Program} {w : World} {K : PySem.W.Frag} {mg : Str → Option Value} {base : Heap}
open XV
/-! ### the law: what it calls, the loop's turns -/
structure Fc (p : SerM.Po) (n A : Nat) : Prop where
  l : p.length ≤ n
  c : ∀ i, (SerM.co p i).natAbs ≤ A
theorem Fc.times {p q : SerM.Po} {n k A B : Nat} (h : Fc p n A) (g : Fc q k B) : Fc (SerM.trim (SerM.mul p q)) (n + k) (n * (A * B)) :=
  ⟨trim_len_le fun i hi => SerM.mul_len0 _ _ _ (by have := h.l; have := g.l; omega), fun i => by
    rw [SerM.trim_co]
    exact Nat.le_trans (SerM.mul_bd g.c p h.c i) (Nat.mul_le_mul_right _ h.l)⟩
theorem Fc.frac {p q : SerM.Po} {n k A B : Nat} (h : Fc p n A) (g : Fc q k B) (h1 : SerM.ev q 0 = 1) (a : n ≤ 9) (b : A ≤ 1048576) (c : k ≤ 9) (d : B ≤ 1048576) : Frac p q uni :=
  ⟨Nat.le_trans h.l a, Nat.le_trans g.l c, fun i => Nat.le_trans (h.c i) b, fun i => Nat.le_trans (g.c i) d, h1⟩
theorem Fc.lt {p : SerM.Po} {n A c : Nat} (h : Fc p n A) (k : A < 2 ^ c) : ∀ i, (SerM.co p i).natAbs < 2 ^ c := lt_pow h.c k
theorem Fc.mono {p : SerM.Po} {n k A B : Nat} (h : Fc p n A) (a : n ≤ k) (b : A ≤ B) : Fc p k B := ⟨Nat.le_trans h.l a, fun i => Nat.le_trans (h.c i) b⟩
theorem Val.to {H : Hp} {C a : Addr} {P Q P' Q' : SerM.Po} {z z' : Sz} (h : Val H C a P Q z) (F : Frac P' Q' z') (e : ∀ x, SerM.ev P x * SerM.ev Q' x = SerM.ev P' x * SerM.ev Q x) : Val H C a P' Q' z' := by
  obtain ⟨f, u, v, S, R⟩ := h
  exact ⟨F, u, v, S, SerM.red_of F.q1 f.q1 e R⟩
theorem ev_one (x : Int) : SerM.ev [1] x = 1 := by show (1 : Int) + x * 0 = 1; omega
theorem ev_num (n x : Int) : SerM.ev [n] x = n := by show n + x * 0 = n; omega
theorem ev_nil (x : Int) : SerM.ev [] x = 0 := rfl
theorem Val.kp {H H' : Hp} {C a b c : Addr} {P Q : SerM.Po} {z : Sz} (h : Val H C a P Q z) (B : Bag H b c) (k : Kp b H H') : Val H' C a P Q z := by
  obtain ⟨F, u, v, S, R⟩ := h
  exact ⟨F, u, v, S.kp B k, R⟩
theorem Val.uniq {H : Hp} {C x y : Addr} {P Q : SerM.Po} {z1 z2 : Sz} (h : Val H C x P Q z1) (g : Val H C y P Q z2) : ∃ u v, SerAt H C x u v ∧ SerAt H C y u v := by
  obtain ⟨f, u, v, S, R⟩ := h
  obtain ⟨_, u', v', S', R'⟩ := g
  obtain ⟨rfl, rfl⟩ := SerM.red_uniq f.q1 R R'
  exact ⟨u, v, S, S'⟩
theorem eq_rdU {H : Hp} {C x y : Addr} {P Q : SerM.Po} {z1 z2 : Sz} {R : VK} (h : Val H C x P Q z1) (g : Val H C y P Q z2) (q : R (.bl true) H) :
    ∃ a dx fs, V.ref x = .ref a ∧ H a = some (.ins C dx fs) ∧ OwnX.TyK2 K C (.ref y) H ∧ spEqS C [.ref a, .ref y] H (fun v H' => ∃ b, v = .bl b ∧ R v H') E0 := by
  obtain ⟨u, v, S, S'⟩ := h.uniq g
  obtain ⟨dx, _, _, _, h1, _⟩ := id S
  obtain ⟨dy, _, _, _, h2, _⟩ := id S'
  refine ⟨x, dx, _, rfl, h1, .inl (.inl ⟨y, dy, _, rfl, h2⟩), .inl ⟨x, y, u, v, u, v, rfl, S, S', true, ?_⟩⟩
  have ed : (decide (u = u) && decide (v = v)) = true := by rw [decide_eq_true rfl, decide_eq_true rfl]; rfl
  rw [ed]
  exact ⟨rfl, q⟩
theorem ef_bl {H : Hp} {n : Nat} (b : Bool) : Eqv H n (.bl b) (.bl b) := Eqv.leaf (show Leaf (V.bl b) from trivial) n
/-! ### the first answers -/
theorem eqv_iv {H : Hp} {a b : Addr} {u : SerM.Po} {n : Nat} (ha : H a = some (.lst (iv u))) (hb : H b = some (.lst (iv u))) (hl : u.length ≤ 100000) : Eqv H (n + 1) (.ref a) (.ref b) :=
  .inr ⟨a, b, iv u, iv u, rfl, rfl, rfl, by rw [List.length_map]; exact hl, .inl ⟨ha, hb⟩, fun i x y hx hy => by
    rw [hx] at hy
    cases hy
    obtain ⟨_, rfl⟩ := iv_get hx
    exact Eqv.leaf (show Leaf (V.int _) from trivial) n⟩
def EqL (H : Hp) (n : Nat) : List V → List V → Prop
  | [], [] => True
  | x :: xs, y :: ys => Eqv H n x y ∧ EqL H n xs ys
  | _, _ => False
theorem EqL.at_ {H : Hp} {n : Nat} : ∀ {xs ys : List V}, EqL H n xs ys → xs.length = ys.length ∧ ∀ (i : Nat) (u v : V), xs[i]? = some u → ys[i]? = some v → Eqv H n u v
  | [], [], _ => ⟨rfl, fun i u v h => by simp at h⟩
  | x :: xs, y :: ys, ⟨h, r⟩ => by
    obtain ⟨h1, h2⟩ := EqL.at_ r
    refine ⟨by rw [List.length_cons, List.length_cons, h1], fun i u v hu hv => ?_⟩
    cases i with
    | zero =>
      cases hu
      cases hv
      exact h
    | succ i => exact h2 i u v hu hv
  | [], _ :: _, h => h.elim
  | _ :: _, [], h => h.elim
theorem eqv_lst {H : Hp} {a b : Addr} {xs ys : List V} {n : Nat} (ha : H a = some (.lst xs)) (hb : H b = some (.lst ys)) (h : EqL H n xs ys) (hl : xs.length ≤ 100000) : Eqv H (n + 1) (.ref a) (.ref b) :=
  .inr ⟨a, b, xs, ys, rfl, rfl, h.at_.1, hl, .inl ⟨ha, hb⟩, h.at_.2⟩
theorem TabS_kp {H H' : Hp} {b c : Addr} {q : Addr} {s : Str} (B : Bag H b c) (k : Kp b H H') (t : LamX.TabS H q s) : LamX.TabS H' q s := by
  obtain ⟨ps, h1, h2, h3⟩ := t
  obtain ⟨xs, hb⟩ : ∃ xs, H b = some (.lst xs) := by
    obtain ⟨ns, p, r, s, k, B⟩ := B
    exact ⟨_, B.lb⟩
  refine ⟨ps, k _ _ h1 (ne_of h1 hb (by intro z; cases z)), h2, fun pos cv hc => ?_⟩
  obtain ⟨d, e1, e2⟩ := h3 pos cv hc
  exact ⟨d, e1, k _ _ e2 (ne_of e2 hb (by intro z; cases z))⟩
theorem Tabs_kp {T : List (Addr × Str)} {H H' : Hp} {b c : Addr} (B : Bag H b c) (k : Kp b H H') (t : LamX.Tabs T H) : LamX.Tabs T H' := fun p hp => TabS_kp B k (t p hp)
theorem Bag_ext {H H' : Hp} {b c : Addr} (B : Bag H b c) (e : LamX.ExtN H H') : Bag H' b c := by
  obtain ⟨ns, p, r, s, k, B⟩ := B
  exact ⟨ns, p, r, s, k, e _ _ B.lb (fun ps z => by cases z), e _ _ B.lc (fun ps z => by cases z), B.nl, B.p0, B.s0, B.s1, B.r0⟩
theorem eqv_told {H : Hp} {tf td t1 t1' : Addr} {code : Str} {due : List V} (n : Nat) (h1 : H tf = some (.tup [.str code, .ref t1'])) (h2 : H t1' = some (.tup due)) (h3 : H td = some (.tup [.str code, .ref t1])) (h4 : H t1 = some (.tup due)) (hl : due.length ≤ 2) (lf : ∀ z ∈ due, Leaf z) : Eqv H (n + 2) (.ref tf) (.ref td) := by
  refine .inr ⟨tf, td, [.str code, .ref t1'], [.str code, .ref t1], rfl, rfl, rfl, (by show 2 ≤ 100000; decide), .inr ⟨h1, h3⟩, fun i u v hu hv => ?_⟩
  match i, hu, hv with
  | 0, hu, hv =>
    cases hu
    cases hv
    exact Eqv.leaf (show Leaf (V.str code) from trivial) _
  | 1, hu, hv =>
    cases hu
    cases hv
    refine .inr ⟨t1', t1, due, due, rfl, rfl, rfl, by omega, .inr ⟨h2, h4⟩, fun i u v hu hv => ?_⟩
    rw [hu] at hv
    cases hv
    exact Eqv.leaf (lf u (List.mem_of_getElem? hu)) _
  | n + 2, hu, hv => cases hu
abbrev sLaw : Stmt := top 49
abbrev lawN : List Str := ["_law_script", "_law_bag_here", "_law_turn", "_law_top_z", "_law_bottom_z", "_law_odd", "_law_spot", "_law_low", "_law_first", "_law_given", "_law_one", "_law_wrong", "_law_found", "_law_most", "_law_pair_here"]
theorem scLaw : FnScope lawN ["_law_script"] (defScope sLaw) := ⟨rfl, rfl, rfl, by decide +kernel, rfl, by decide +kernel, by decide +kernel⟩
abbrev lawX (P : Program) (w : World) (K : PySem.W.Frag) (mg : Str → Option Value) (base : Heap) (f : Addr) (cdv : Value) (A : Around) (outer : List Env) (s : Shared) (H0 : Hp) (E : XK) : Cx := (cxOf CX0 P w K mg base lawN "law" (defScope sLaw) f cdv A outer s H0 E).nox
def loopB : List Stmt := match (defBody sLaw)[1]? with
  | some (PySem.Stmt.For _ _ b _ _) => b
  | _ => []
def Dfx (P : Program) (w : World) (K : PySem.W.Frag) (mg : Str → Option Value) (base : Heap) (k : Nat) (x : Str) (ps : List Str) (sp : Sp) : Prop := ∃ g gd, Df P w K mg base k g gd x ps sp
def Omx (P : Program) (w : World) (K : PySem.W.Frag) (mg : Str → Option Value) (base : Heap) (C : Addr) (k : Nat) (m : Str) (ps : List Str) (sp : Sp) : Prop := ∃ g gd, OwnX.OMt P w K mg base C k g gd m ps sp
structure MtX (P : Program) (w : World) (K : PySem.W.Frag) (mg : Str → Option Value) (base : Heap) (C : Addr) (k : Nat) (f : Addr) (fd : FuncData) (m : Str) (ps : List Str) (sp : Sp) : Prop where
  mt : Meth K C m f
  ok : FnOk P w K mg base (L2.CX P w) k f fd ps sp
  b : Binds K fd ps []
theorem passNo {X : Cx} : Passes (L2.CX P w) X E0 := fun pins σ H s e s' _ h => by
  obtain ⟨_, _, _, _, _, _, _, _, _, _, _, _, h⟩ := h
  exact h.elim
/-- an error class that `_law_why` tells -/
structure ErC (K : PySem.W.Frag) (cs : List Value) (C : Addr) : Prop where
  xf : XfC K C
  at_ : ∀ n ∈ attrsX, PySem.W.findIn K (.ref C) n = some none
  ex : PySem.W.exmAny K (.ref C) cs = some true
structure LawD (P : Program) (w : World) (K : PySem.W.Frag) (mg : Str → Option Value) (base : Heap) (C CI CN g ff U M' NL : Addr) (oc kV doc pm cdv ct : Value) (od an : Option Addr) (osl : Array (Option Value)) (fdF : FuncData) : Prop where
  T : LawT mg
  sc : SerC K C
  bag : Dfx P w K mg base 1 "_law_bag" ["_law_script"] (spBag K)
  pull : Dfx P w K mg base 1 "_law_pull" ["_law_bag_here", "_law_many"] spPull
  any : Dfx P w K mg base 2 "_law_any" ["_law_bag_here", "_law_things"] (spAny K)
  same : Dfx P w K mg base 6 "_law_same" ["_law_found", "_law_due"] (spSame 6)
  pair : Dfx P w K mg base 3 "_law_pair" ["_law_bag_here", "_law_many", "_law_wide"] spPairL
  so : Dfx P w K mg base 4 "_law_series_so" ["_law_found", "_law_pair_here"] (spSoL K C)
  mS : mg "Series" = some (.ref C)
  bad : ∃ fI fd gg, Mk K C fI ∧ FnOk P w K mg base (L2.CX P w) 5 fI fd serPs (spSerB K CI) ∧ Binds K fd serPs [] ∧ KBn K fd serPs 1 ["bottom", "top"] gg (fun us ws => us ++ ws.reverse)
  made : ∃ fI fd d dv, MakS P w K mg base C fI fd d dv
  madeP : ∃ fI fd d dv, MakP P w K mg base C fI fd d dv
  coefW : ∃ g gd, MtX P w K mg base C 3 g gd "coefficient" ["self", "k"] (spWr CN)
  firstW : ∃ g gd, MtX P w K mg base C 3 g gd "first" ["self", "n"] (spWr CN)
  lshW : ∃ g gd, MtX P w K mg base C 8 g gd "__lshift__" opPs (spWr CN)
  rshW : ∃ g gd, MtX P w K mg base C 8 g gd "__rshift__" opPs (spWr CN)
  oal : AnyX.OpA K C "lshift" "__lshift__"
  oar : AnyX.OpA K C "rshift" "__rshift__"
  delay : ∃ mc pr gd fd gg, ClX.CRead K C mc ∧ StaX.SMet K C mc "delay" pr gd ∧ Binds K fd ["d"] [] ∧ KBn K fd ["d"] 0 ["d"] gg (fun us ws => us ++ ws) ∧ FnOk P w K mg base (L2.CX P w) 7 gd fd ["d"] (spWr1 CN) ∧ FnOk P w K mg base CX0 7 gd fd ["d"] (spDlyP C)
  coef : ∃ g gd, Mt P w K mg base C 3 g gd "coefficient" ["self", "k"] (spCoef C)
  first : ∃ g gd, Mt P w K mg base C 3 g gd "first" ["self", "n"] (spFirst C)
  lshP : Omx P w K mg base C 8 "__lshift__" opPs (spLateP C)
  rshP : Omx P w K mg base C 8 "__rshift__" opPs (spRsh0 C)
  erI : ErC K [.ref U, .ref M', .ref NL] CI
  erN : ErC K [.ref U, .ref M', .ref NL] CN
  lkW : K.lookup g = some ⟨oc, od, .func (PySem.W.fnOf "_law_why" "_law_why" (defArgs sWhy) (defBody sWhy) (defScope sWhy) .none kV doc pm an cdv ct), osl⟩
  hcW : PySem.W.codeIn K cdv "_law_why" = true
  bW : Binds K (PySem.W.fnOf "_law_why" "_law_why" (defArgs sWhy) (defBody sWhy) (defScope sWhy) .none kV doc pm an cdv ct) ["_law_ask"] []
  mW : mg "_law_why" = some (.ref g)
  kW : PySem.W.keepIn K (.ref g) = true
  GFd : ExR.FnE P w K mg base CX0 1 ff fdF ["_law_e"] (spFieldE K)
  bF : Binds K fdF ["_law_e"] []
  kF : PySem.W.keepIn K (.ref ff) = true
  mF : mg "_law_field" = some (.ref ff)
  mU : mg "UnopenedError" = some (.ref U)
  mM : mg "Missing" = some (.ref M')
  mN : mg "NothingLeft" = some (.ref NL)
/-- from statement n of the loop's body on: from Pre the turn ends in Inv -/
def SegP (X : Cx) (n : Nat) (Pre Inv : L2.St → Hp → Prop) : Prop := ∃ t, PSs X (loopB.drop n) t ∧ ∀ (D : Ends) (σ : L2.St) (H : Hp), Pre σ H → (∀ σ' H', Inv σ' H' → D.nx σ' H' ∧ D.ct σ' H') → t D σ H
abbrev TL' := List (Addr × Str)
def LInv (T : TL') (scr : Addr) (σ : L2.St) (H : Hp) : Prop := ∃ b c : Addr, Bag H b c ∧ LamX.Tabs T H ∧ ∃ v2 v3 v4 v5 v6 v7 v8 v9 v10 v11 v12 v13 v14 : Option V, σ = [some (.ref scr), some (.ref b), v2, v3, v4, v5, v6, v7, v8, v9, v10, v11, v12, v13, v14]
/-- no whole number, as the law draws it -/
inductive OddV (H : Hp) : V → Prop where
  | non : OddV H .non
  | bl {x : Bool} : OddV H (.bl x)
  | str {z : Str} : OddV H (.str z)
  | lst {a : Addr} {p : SerM.Po} : H a = some (.lst (iv p)) → OddV H (.ref a)
  | tup {a : Addr} {ys : List V} : H a = some (.tup ys) → OddV H (.ref a)
theorem OddV.same {H H' : Hp} {v : V} (h : OddV H v) (s : Same H H') : OddV H' v := by
  cases h with
  | non => exact .non
  | bl => exact .bl
  | str => exact .str
  | lst h => exact .lst (s _ _ h)
  | tup h => exact .tup (s _ _ h)
theorem OddV.kp {H H' : Hp} {b c : Addr} {v : V} (h : OddV H v) (B : Bag H b c) (k : Kp b H H') : OddV H' v := by
  cases h with
  | non => exact .non
  | bl => exact .bl
  | str => exact .str
  | lst h => exact .lst (k _ _ h (iv_bag B h))
  | tup h => exact .tup (k.tups B _ _ h)
theorem OddV.ints {H : Hp} {v : V} (h : OddV H v) : IntS K H v false := by
  cases h with
  | non => exact ⟨"NoneType", false, false, fun _ _ => .base .non, by decide +kernel, by decide +kernel, rfl⟩
  | bl => exact ⟨"bool", true, true, fun _ _ => .base (.bl _), by decide +kernel, by decide +kernel, rfl⟩
  | str => exact ⟨"str", false, false, fun _ _ => .base (.str _), by decide +kernel, by decide +kernel, rfl⟩
  | lst h => exact ⟨"list", false, false, fun _ s => .base (.lst (s _ _ h)), by decide +kernel, by decide +kernel, rfl⟩
  | tup h => exact ⟨"tuple", false, false, fun _ s => .base (.tup (s _ _ h)), by decide +kernel, by decide +kernel, rfl⟩
theorem ints_int {H : Hp} (i : Int) : IntS K H (.int i) true := ⟨"int", true, false, fun _ _ => .base (.int _), by decide +kernel, by decide +kernel, rfl⟩
def FirstV (H : Hp) (v : V) : Prop := OddV H v ∨ ∃ z : Int, v = .int z ∧ z ≠ 1
structure K4 (T : TL') (H : Hp) (b c tp bt : Addr) (od fv : V) (p q : SerM.Po) (sp lw : Nat) : Prop where
  bag : Bag H b c
  tabs : LamX.Tabs T H
  tp : H tp = some (.lst (iv p))
  bt : H bt = some (.lst (iv (1 :: q)))
  od : OddV H od
  fv : FirstV H fv
  fp : Fc p 4 9
  fq : Fc (1 :: q) 4 9
  sp : sp ≤ p.length
  l1 : 1 ≤ lw
  lw : lw ≤ q.length + 1
def LInv' := LInv
def Pre1 (T : TL') (scr : Addr) (σ : L2.St) (H : Hp) : Prop := ∃ (b c tp bt : Addr) (od fv : V) (p q : SerM.Po) (sp lw : Nat), K4 T H b c tp bt od fv p q sp lw ∧ ∃ v2 v9 v10 v11 v12 v13 v14 : Option V, σ = [some (.ref scr), some (.ref b), v2, some (.ref tp), some (.ref bt), some od, some (.int (sp : Nat)), some (.int (lw : Nat)), some fv, v9, v10, v11, v12, v13, v14]
section
variable {C CI CN g ff U M' NL f scr c0 P0 : Addr} {oc kV doc pm cdw ct : Value} {od an : Option Addr} {osl : Array (Option Value)} {fdF : FuncData} {T : TL'} {A : Around} {outer : List Env} {s : Shared} {H0 : Hp} {E : XK} {J : L2.St → Hp → Prop}
theorem segA (L : LawD P w K mg base C CI CN g ff U M' NL oc kV doc pm cdw ct od an osl fdF) (TB : LamX.TabB base mg c0 P0) (hT : T = [(P0, (lawX P w K mg base f (.ref c0) A outer s H0 E).env.qual ++ "<lambda>")]) (hr : Room 10 (lawX P w K mg base f (.ref c0) A outer s H0 E).A) (next : SegP (lawX P w K mg base f (.ref c0) A outer s H0 E) 4 (Pre1 T scr) (LInv T scr)) : SegP (lawX P w K mg base f (.ref c0) A outer s H0 E) 0 (LInv T scr) (LInv T scr) := by
  obtain ⟨t, ht, hq⟩ := next
  have C' := L.sc
  have Tx := L.T
  obtain ⟨_, _, DP⟩ := L.pull
  obtain ⟨_, _, DA⟩ := L.any
  obtain ⟨_, _, DPr⟩ := L.pair
  obtain ⟨_, _, DSo⟩ := L.so
  obtain ⟨_, _, DS⟩ := L.same
  refine ⟨_, (pss_cons (ps_asg (pe_call DPr.ok (hr.mono (by decide)) (by rfl) DPr.m DPr.kp DPr.b .nil pass0 (pa_cons (pv 1) (pa_cons pe_int (pa_cons pe_int pa_nil)))) (pg_tup (by rfl) (pgs_cons (pg_name (i := 3) scLaw.nd rfl (by first | exact Or.inl rfl | exact Or.inr rfl)) (pgs_cons (pg_name (i := 4) scLaw.nd rfl (by first | exact Or.inl rfl | exact Or.inr rfl)) pgs_nil))))
 (pss_cons (ps_set (i := 5) scLaw.nd rfl (by first | exact Or.inl rfl | exact Or.inr rfl) (pe_call DA.ok (hr.mono (by decide)) (by rfl) DA.m DA.kp DA.b .nil pass0 (pa_cons (pv 1) (pa_cons (pe_lst (pa_cons pe_non (pa_cons pe_bl (pa_cons pe_str (pa_cons (pe_lst (pa_cons pe_int pa_nil)) (pa_cons (pe_tup (pa_cons pe_int pa_nil)) (pa_cons pe_str pa_nil))))))) pa_nil))))
 (pss_cons (ps_par (i := 6) (j := 7) rfl scLaw.nd rfl rfl (by decide) rfl rfl (pa_cons (pe_call DP.ok (hr.mono (by decide)) (by rfl) DP.m DP.kp DP.b .nil pass0 (pa_cons (pv 1) (pa_cons (pe_op op_add (pe_callB call_len_seq (by rfl) Tx.len PySem.boot_len (pa_cons (pv 3) pa_nil)) pe_int) pa_nil))) (pa_cons (pe_op op_add pe_int (pe_call DP.ok (hr.mono (by decide)) (by rfl) DP.m DP.kp DP.b .nil pass0 (pa_cons (pv 1) (pa_cons (pe_callB call_len_seq (by rfl) Tx.len PySem.boot_len (pa_cons (pv 4) pa_nil)) pa_nil)))) pa_nil)) (by rfl))
 (pss_cons (ps_set (i := 8) scLaw.nd rfl (by first | exact Or.inl rfl | exact Or.inr rfl) (pe_call DA.ok (hr.mono (by decide)) (by rfl) DA.m DA.kp DA.b .nil pass0 (pa_cons (pv 1) (pa_cons (pe_lst (pa_cons pe_int (pa_cons pe_int (pa_cons (pe_un un_neg pe_int) (pa_cons pe_bl (pa_cons pe_non pa_nil)))))) pa_nil))))
 ht)))), fun D σ H pre post => ?_⟩
  obtain ⟨b, c, B, tb, v2, v3, v4, v5, v6, v7, v8, v9, v10, v11, v12, v13, v14, rfl⟩ := pre
  have hsz : 1000000 < sizeLine := by decide
  refine ⟨_, rfl, b, c, 4, 9, rfl, B, by decide, by decide, by decide, by decide, fun t1 tp bt p q H2 B2 k2 ht1 htp hbt h2t h2p h2q pl ql pc qc => ?_⟩
  refine ⟨t1, _, rfl, SqT.of h2t, rfl, _, _, rfl, _, _, rfl, rfl, ?_⟩
  have tb2 := Tabs_kp B k2 tb
  have fp : Fc p 4 9 := ⟨by omega, fun i => by have := pc i; omega⟩
  have fq : Fc (1 :: q) 4 9 := ⟨by rw [List.length_cons]; omega, fun i => by have := qc i; omega⟩
  clear h2t ht1 htp hbt
  refine ⟨_, rfl, (by show 1 ≤ sizeLine; decide), fun l1 hl1 => ?_⟩
  have s3 := same_upd hl1 (.lst [V.int 1])
  have g1 : upd H2 l1 (.lst [V.int 1]) l1 = some (.lst (iv [1])) := upd_same
  generalize upd H2 l1 (.lst [V.int 1]) = H3 at s3 g1 ⊢
  refine ⟨(by show 1 ≤ sizeLine; decide), fun u1 hu1 => ?_⟩
  have s4 := s3.trans (same_upd hu1 (.tup [V.int 1]))
  have g2 : upd H3 u1 (.tup [V.int 1]) u1 = some (.tup [V.int 1]) := upd_same
  have g1 := (same_upd hu1 (.tup [V.int 1])) _ _ g1
  generalize upd H3 u1 (.tup [V.int 1]) = H4 at s4 g1 g2 ⊢
  refine ⟨(by show 6 ≤ sizeLine; decide), fun m hm => ?_⟩
  have B4 := B2.same s4
  have fr := B4.fresh hm
  have s5 := s4.trans (same_upd hm (.lst [V.non, V.bl true, V.str "1", V.ref l1, V.ref u1, V.str ""]))
  have g1 := (same_upd hm (.lst [V.non, V.bl true, V.str "1", V.ref l1, V.ref u1, V.str ""])) _ _ g1
  have g2 := (same_upd hm (.lst [V.non, V.bl true, V.str "1", V.ref l1, V.ref u1, V.str ""])) _ _ g2
  have g3 : upd H4 m (.lst [V.non, V.bl true, V.str "1", V.ref l1, V.ref u1, V.str ""]) m = some (.lst [V.non, V.bl true, V.str "1", V.ref l1, V.ref u1, V.str ""]) := upd_same
  generalize upd H4 m (.lst [V.non, V.bl true, V.str "1", V.ref l1, V.ref u1, V.str ""]) = H5 at s5 g1 g2 g3 ⊢
  have B5 := B2.same s5
  refine ⟨b, c, .ref m, [V.non, V.bl true, V.str "1", V.ref l1, V.ref u1, V.str ""], rfl, B5, .inl ⟨m, rfl, fr, SqL.of g3⟩, (by show 0 < 6; decide), (by show 6 < 1073741824; decide), fun od H6 hod B6 k6 => ?_⟩
  have hodv : OddV H5 od := by
    simp only [List.mem_cons, List.not_mem_nil, or_false] at hod
    rcases hod with rfl | rfl | rfl | rfl | rfl | rfl
    · exact .non
    · exact .bl
    · exact .str
    · exact .lst g1
    · exact .tup g2
    · exact .str
  have hodv := hodv.kp B5 k6
  have h5p := s5 _ _ h2p
  have h5q := s5 _ _ h2q
  have h6p := k6 _ _ h5p (iv_bag B5 h5p)
  have h6q := k6 _ _ h5q (iv_bag B5 h5q)
  have tb6 := Tabs_kp B5 k6 (tb2.ext s5)
  clear k2 B2 s3 s4 g1 g2 g3 hod fr
  -- the places
  have Lp := fp.l
  have Lq := fq.l
  rw [List.length_cons] at Lq
  refine ⟨_, rfl, _, rfl, tp, _, rfl, .inl (SqL.of h6p), _, _, rfl, rfl, b, c, _, rfl, B6, by rw [List.length_map]; omega, by rw [List.length_map]; omega, fun z H7 z0 z1 B7 k7 => ?_⟩
  rw [List.length_map] at z1
  obtain ⟨sp, rfl⟩ : ∃ e : Nat, z = (e : Int) := ⟨z.toNat, by omega⟩
  have h7q := k7 _ _ h6q (iv_bag B6 h6q)
  have h7p := k7 _ _ h6p (iv_bag B6 h6p)
  have od7 := hodv.kp B6 k7
  have tb7 := Tabs_kp B6 k7 tb6
  refine ⟨_, rfl, _, rfl, bt, _, rfl, .inl (SqL.of h7q), b, c, _, rfl, B7, by rw [List.length_map, List.length_cons]; omega, by rw [List.length_map, List.length_cons]; omega, fun y H8 y0 y1 B8 k8 => ?_⟩
  rw [List.length_map, List.length_cons] at y1
  obtain ⟨l', rfl⟩ : ∃ e : Nat, y = (e : Int) := ⟨y.toNat, by omega⟩
  refine ⟨_, _, rfl, rfl, ?_⟩
  refine ⟨_, _, rfl, ?_⟩
  have elw : (fun (i j : Int) => V.int (i + j)) 1 (l' : Int) = V.int ((1 + l' : Nat) : Int) := by
    show V.int (1 + (l' : Int)) = _
    congr 1
  rw [elw]
  have h8q := k8 _ _ h7q (iv_bag B7 h7q)
  have h8p := k8 _ _ h7p (iv_bag B7 h7p)
  have od8 := od7.kp B7 k8
  have tb8 := Tabs_kp B7 k8 tb7
  -- first
  refine ⟨_, rfl, _, rfl, (by show 5 ≤ sizeLine; decide), fun m2 hm2 => ?_⟩
  have s9 := same_upd hm2 (.lst [V.int 0, V.int 2, V.int (-1), V.bl true, V.non])
  have g9 : upd H8 m2 (.lst [V.int 0, V.int 2, V.int (-1), V.bl true, V.non]) m2 = some (.lst [V.int 0, V.int 2, V.int (-1), V.bl true, V.non]) := upd_same
  have fr9 := B8.fresh hm2
  generalize upd H8 m2 (.lst [V.int 0, V.int 2, V.int (-1), V.bl true, V.non]) = H9 at s9 g9 ⊢
  have B9 := B8.same s9
  refine ⟨b, c, .ref m2, [V.int 0, V.int 2, V.int (-1), V.bl true, V.non], rfl, B9, .inl ⟨m2, rfl, fr9, SqL.of g9⟩, (by show 0 < 5; decide), (by show 5 < 1073741824; decide), fun fv HA hfv BA kA => ?_⟩
  have hf : FirstV HA fv := by
    simp only [List.mem_cons, List.not_mem_nil, or_false] at hfv
    rcases hfv with rfl | rfl | rfl | rfl | rfl
    · exact .inr ⟨0, rfl, by decide⟩
    · exact .inr ⟨2, rfl, by decide⟩
    · exact .inr ⟨-1, rfl, by decide⟩
    · exact .inl .bl
    · exact .inl .non
  have h9q := s9 _ _ h8q
  have h9p := s9 _ _ h8p
  exact hq D _ _ ⟨b, c, tp, bt, od, fv, p, q, sp, 1 + l', ⟨BA, Tabs_kp B9 kA (tb8.ext s9), kA _ _ h9p (iv_bag B9 h9p), kA _ _ h9q (iv_bag B9 h9q), (od8.same s9).kp B9 kA, hf, fp, fq, by omega, by omega, by omega⟩, _, _, _, _, _, _, _, rfl⟩ post
end
end
end Un
namespace Un
open PySem L2 TL
section
variable {P : Program} {w : World} {K : PySem.W.Frag} {mg : Str → Option Value} {base : Heap}
/-! ### pairs that are refused -/
open XV
def ItemV (H : Hp) (y : V) (b : Bool) : Prop := (b = false ∧ OddV H y) ∨ (b = true ∧ ∃ i : Int, y = .int i)
theorem ItemV.same {H H' : Hp} {y : V} {b : Bool} (h : ItemV H y b) (s : Same H H') : ItemV H' y b := by
  rcases h with ⟨e, h⟩ | h
  · exact .inl ⟨e, h.same s⟩
  · exact .inr h
theorem ItemV.kp {H H' : Hp} {a c : Addr} {y : V} {b : Bool} (h : ItemV H y b) (B : Bag H a c) (k : Kp a H H') : ItemV H' y b := by
  rcases h with ⟨e, h⟩ | h
  · exact .inl ⟨e, h.kp B k⟩
  · exact .inr h
theorem ItemV.ints {H : Hp} {y : V} {b : Bool} (h : ItemV H y b) : IntS K H y b := by
  rcases h with ⟨rfl, h⟩ | ⟨rfl, i, rfl⟩
  · exact h.ints
  · exact ints_int i
/-- a list of items, some of which is no whole number -/
structure GRow (H : Hp) (b a : Addr) (ys : List V) (bs : List Bool) : Prop where
  at_ : H a = some (.lst ys)
  ne : a ≠ b
  len : bs.length = ys.length
  le : ys.length ≤ 1000
  it : ∀ (i : Nat) (y : V) (x : Bool), ys[i]? = some y → bs[i]? = some x → ItemV H y x
  no : bs.all id = false
theorem GRow.same {H H' : Hp} {b a : Addr} {ys : List V} {bs : List Bool} (h : GRow H b a ys bs) (s : Same H H') : GRow H' b a ys bs :=
  ⟨s _ _ h.at_, h.ne, h.len, h.le, fun i y x h1 h2 => (h.it i y x h1 h2).same s, h.no⟩
theorem GRow.kp {H H' : Hp} {b c a : Addr} {ys : List V} {bs : List Bool} (h : GRow H b a ys bs) (B : Bag H b c) (k : Kp b H H') : GRow H' b a ys bs :=
  ⟨k _ _ h.at_ h.ne, h.ne, h.len, h.le, fun i y x h1 h2 => (h.it i y x h1 h2).kp B k, h.no⟩
theorem GRow.noRow {H : Hp} {b a : Addr} {ys : List V} {bs : List Bool} (h : GRow H b a ys bs) : NoRow K H (.ref a) :=
  .inr ⟨a, ys, bs, rfl, ⟨h.at_, h.len, h.le, fun i y x h1 h2 => (h.it i y x h1 h2).ints⟩, h.no⟩
/-- no list and no tuple, as the law draws it -/
inductive FlatV (H : Hp) : V → Prop where
  | non : FlatV H .non
  | bl {x : Bool} : FlatV H (.bl x)
  | int {i : Int} : FlatV H (.int i)
  | str {z : Str} : FlatV H (.str z)
  | dict {a : Addr} {es : List (Key × V)} : H a = some (.dK es) → FlatV H (.ref a)
theorem FlatV.same {H H' : Hp} {v : V} (h : FlatV H v) (s : Same H H') : FlatV H' v := by
  cases h with
  | non => exact .non
  | bl => exact .bl
  | int => exact .int
  | str => exact .str
  | dict h => exact .dict (s _ _ h)
theorem FlatV.kp {H H' : Hp} {b c : Addr} {v : V} (h : FlatV H v) (B : Bag H b c) (k : Kp b H H') : FlatV H' v := by
  cases h with
  | non => exact .non
  | bl => exact .bl
  | int => exact .int
  | str => exact .str
  | @dict a es h =>
    refine .dict (k _ _ h fun e => ?_)
    subst e
    obtain ⟨ns, p, r, s, kk, B⟩ := B
    have := B.lb.symm.trans h
    cases this
theorem FlatV.noSeq {H : Hp} {v : V} (h : FlatV H v) : NoSeq K H v := by
  cases h with
  | non => exact ⟨"NoneType", fun _ _ => .base .non, by decide +kernel, by decide +kernel⟩
  | bl => exact ⟨"bool", fun _ _ => .base (.bl _), by decide +kernel, by decide +kernel⟩
  | int => exact ⟨"int", fun _ _ => .base (.int _), by decide +kernel, by decide +kernel⟩
  | str => exact ⟨"str", fun _ _ => .base (.str _), by decide +kernel, by decide +kernel⟩
  | dict h => exact ⟨"dict", fun _ s => .base (.dK (s _ _ h)), by decide +kernel, by decide +kernel⟩
/-- a pair that the class refuses -/
inductive GBad (H : Hp) (b : Addr) : V → V → Prop where
  | top {a : Addr} {ys : List V} {bs : List Bool} {y : V} : GRow H b a ys bs → GBad H b (.ref a) y
  | flat {x y : V} : FlatV H x → GBad H b x y
  | bot {x : Addr} {p : SerM.Po} {a : Addr} {ys : List V} {bs : List Bool} : H x = some (.lst (iv p)) → p.length ≤ 1000 → GRow H b a ys bs → GBad H b (.ref x) (.ref a)
  | botF {x : Addr} {p : SerM.Po} {y : V} : H x = some (.lst (iv p)) → p.length ≤ 1000 → FlatV H y → GBad H b (.ref x) y
  | first {x : Addr} {p : SerM.Po} {y : Addr} {q : SerM.Po} : H x = some (.lst (iv p)) → p.length ≤ 1000 → H y = some (.lst (iv q)) → q.length ≤ 1000 → q = [] ∨ SerM.co q 0 ≠ 1 → GBad H b (.ref x) (.ref y)
theorem GBad.same {H H' : Hp} {b : Addr} {x y : V} (h : GBad H b x y) (s : Same H H') : GBad H' b x y := by
  cases h with
  | top h => exact .top (h.same s)
  | flat h => exact .flat (h.same s)
  | bot h l g => exact .bot (s _ _ h) l (g.same s)
  | botF h l g => exact .botF (s _ _ h) l (g.same s)
  | first h l g m e => exact .first (s _ _ h) l (s _ _ g) m e
theorem GBad.kp {H H' : Hp} {b c : Addr} {x y : V} (h : GBad H b x y) (B : Bag H b c) (k : Kp b H H') : GBad H' b x y := by
  cases h with
  | top h => exact .top (h.kp B k)
  | flat h => exact .flat (h.kp B k)
  | bot h l g => exact .bot (k _ _ h (iv_bag B h)) l (g.kp B k)
  | botF h l g => exact .botF (k _ _ h (iv_bag B h)) l (g.kp B k)
  | first h l g m e => exact .first (k _ _ h (iv_bag B h)) l (k _ _ g (iv_bag B g)) m e
theorem GBad.bad {H : Hp} {b : Addr} {x y : V} (h : GBad H b x y) : BadIn K H x y := by
  cases h with
  | top h => exact .top h.noRow
  | flat h => exact .top (.inl h.noSeq)
  | bot h l g => exact .bot (RowV.lst h) l g.noRow
  | botF h l g => exact .bot (RowV.lst h) l (.inl g.noSeq)
  | first h l g m e => exact .first (RowV.lst h) l (RowV.lst g) m e
/-- the items of a row with one wrong item put in -/
theorem put_row {H : Hp} {b a : Addr} {p : SerM.Po} {od : V} {n : Nat} (h : H a = some (.lst (iv (p.take n) ++ [od] ++ iv (p.drop n)))) (ne : a ≠ b) (hl : p.length ≤ 500) (o : OddV H od) : ∃ ys bs, GRow H b a ys bs := by
  refine ⟨_, (p.take n).map (fun _ => true) ++ [false] ++ (p.drop n).map (fun _ => true), h, ne, by simp, ?_, fun i y x h1 h2 => ?_, by simp⟩
  · simp; omega
  · rw [List.append_assoc, List.getElem?_append] at h1 h2
    simp only [List.length_map] at h1 h2
    split at h1
    · rename_i hi
      rw [if_pos hi] at h2
      rw [List.getElem?_map] at h1 h2
      cases e : (p.take n)[i]? with
      | none => rw [e] at h1; cases h1
      | some z => rw [e] at h1 h2; injection h1 with h1; injection h2 with h2; exact .inr ⟨h2.symm, z, h1.symm⟩
    · rename_i hi
      rw [if_neg hi] at h2
      cases hj : i - (p.take n).length with
      | zero => rw [hj] at h1 h2; cases h1; cases h2; exact .inl ⟨rfl, o⟩
      | succ j =>
        rw [hj] at h1 h2
        have h1' : (iv (p.drop n))[j]? = some y := h1
        have h2' : ((p.drop n).map (fun _ => true))[j]? = some x := h2
        rw [List.getElem?_map] at h1' h2'
        cases e : (p.drop n)[j]? with
        | none => rw [e] at h1'; cases h1'
        | some z => rw [e] at h1' h2'; injection h1' with h1'; injection h2' with h2'; exact .inr ⟨h2'.symm, z, h1'.symm⟩
end
end Un
namespace Un
open PySem L2 TL
section
variable {P : Program} {w : World} {K : PySem.W.Frag} {mg : Str → Option Value} {base : Heap}
theorem cut_from (u : SerM.Po) (n : Nat) : cutV (iv u) (some (n : Int)) none = iv (u.drop n) := by
  unfold cutV
  have e2 : HT.sIx (iv u).length (iv u).length none = (iv u).length := rfl
  rw [HT.sIx_nat, e2]
  by_cases hh : n ≤ (iv u).length
  · rw [Nat.min_eq_left hh, List.take_of_length_le (by rw [List.length_drop]; omega)]
    exact List.map_drop.symm
  · have h1 : u.drop n = [] := List.drop_eq_nil_of_le (by rw [List.length_map] at hh; omega)
    rw [h1, Nat.min_eq_right (by omega), List.drop_eq_nil_of_le (Nat.le_refl _)]
    simp [iv]
theorem K4.same {T : TL'} {H H' : Hp} {b c tp bt : Addr} {od fv : V} {p q : SerM.Po} {sp lw : Nat} (k : K4 T H b c tp bt od fv p q sp lw) (s : Same H H') : K4 T H' b c tp bt od fv p q sp lw :=
  ⟨k.bag.same s, k.tabs.ext s, s _ _ k.tp, s _ _ k.bt, k.od.same s, k.fv.elim (fun h => .inl (h.same s)) .inr, k.fp, k.fq, k.sp, k.l1, k.lw⟩
def GivenAt (H : Hp) (b : Addr) (t : Addr) : Prop := ∃ x y : V, H t = some (.tup [x, y]) ∧ GBad H b x y
theorem GivenAt.same {H H' : Hp} {b t : Addr} (h : GivenAt H b t) (s : Same H H') : GivenAt H' b t := by
  obtain ⟨x, y, h1, h2⟩ := h
  exact ⟨x, y, s _ _ h1, h2.same s⟩
theorem GivenAt.kp {H H' : Hp} {b c t : Addr} (h : GivenAt H b t) (B : Bag H b c) (k : Kp b H H') : GivenAt H' b t := by
  obtain ⟨x, y, h1, h2⟩ := h
  exact ⟨x, y, k.tups B _ _ h1, h2.kp B k⟩
def Pre2 (T : TL') (scr : Addr) (σ : L2.St) (H : Hp) : Prop := ∃ (b c tp bt gl t1 t2 t3 : Addr) (od fv : V) (p q : SerM.Po) (sp lw : Nat), K4 T H b c tp bt od fv p q sp lw ∧ H gl = some (.lst [.ref t1, .ref t2, .ref t3]) ∧ gl ≠ b ∧ GivenAt H b t1 ∧ GivenAt H b t2 ∧ GivenAt H b t3 ∧ ∃ v2 v10 v11 v12 v13 v14 : Option V, σ = [some (.ref scr), some (.ref b), v2, some (.ref tp), some (.ref bt), some od, some (.int (sp : Nat)), some (.int (lw : Nat)), some fv, some (.ref gl), v10, v11, v12, v13, v14]
section
variable {C CI CN g ff U M' NL f scr c0 P0 : Addr} {oc kV doc pm cdw ct : Value} {od an : Option Addr} {osl : Array (Option Value)} {fdF : FuncData} {T : TL'} {A : Around} {outer : List Env} {s : Shared} {H0 : Hp} {E : XK} {J : L2.St → Hp → Prop}
theorem segB (L : LawD P w K mg base C CI CN g ff U M' NL oc kV doc pm cdw ct od an osl fdF) (TB : LamX.TabB base mg c0 P0) (hT : T = [(P0, (lawX P w K mg base f (.ref c0) A outer s H0 E).env.qual ++ "<lambda>")]) (hr : Room 10 (lawX P w K mg base f (.ref c0) A outer s H0 E).A) (next : SegP (lawX P w K mg base f (.ref c0) A outer s H0 E) 5 (Pre2 T scr) (LInv T scr)) : SegP (lawX P w K mg base f (.ref c0) A outer s H0 E) 4 (Pre1 T scr) (LInv T scr) := by
  obtain ⟨t, ht, hq⟩ := next
  have C' := L.sc
  have Tx := L.T
  obtain ⟨_, _, DP⟩ := L.pull
  obtain ⟨_, _, DA⟩ := L.any
  obtain ⟨_, _, DPr⟩ := L.pair
  obtain ⟨_, _, DSo⟩ := L.so
  obtain ⟨_, _, DS⟩ := L.same
  refine ⟨_, (pss_cons (ps_set (i := 9) scLaw.nd rfl (by first | exact Or.inl rfl | exact Or.inr rfl) (pe_lst (pa_cons (pe_tup (pa_cons (pe_op op_cat (pe_op op_cat (pe_slice sl_list (pv 3) po_none (po_some (pv 6))) (pe_lst (pa_cons (pv 5) pa_nil))) (pe_slice sl_list (pv 3) (po_some (pv 6)) po_none)) (pa_cons (pv 4) pa_nil))) (pa_cons (pe_tup (pa_cons (pv 3) (pa_cons (pe_op op_cat (pe_op op_cat (pe_slice sl_list (pv 4) po_none (po_some (pv 7))) (pe_lst (pa_cons (pv 5) pa_nil))) (pe_slice sl_list (pv 4) (po_some (pv 7)) po_none)) pa_nil))) (pa_cons (pe_tup (pa_cons (pv 3) (pa_cons (pe_op op_cat (pe_lst (pa_cons (pv 8) pa_nil)) (pe_slice sl_list (pv 4) (po_some pe_int) po_none)) pa_nil))) pa_nil)))))
 ht), fun D σ H pre post => ?_⟩
  obtain ⟨b, c, tp, bt, od, fv, p, q, sp, lw, k, v2, v9, v10, v11, v12, v13, v14, rfl⟩ := pre
  have hsz : 1000000 < sizeLine := by decide
  have Lp := k.fp.l
  have Lq := k.fq.l
  have e9 : (1 :: q).length = q.length + 1 := rfl
  rw [List.length_cons] at Lq
  refine ⟨_, rfl, _, rfl, _, rfl, tp, _, rfl, SqL.of k.tp, fun a1 ha1 => ?_⟩
  rw [show cutV (iv p) none (some (sp : Int)) = iv (p.take sp) from cut_take k.sp]
  have nba1 := k.bag.fresh ha1
  have s1 := same_upd ha1 (.lst (iv (p.take sp)))
  have ga1 : upd H a1 (.lst (iv (p.take sp))) a1 = some (.lst (iv (p.take sp))) := upd_same
  have k := k.same s1
  generalize upd H a1 (.lst (iv (p.take sp))) = H1 at s1 ga1 k ⊢
  refine ⟨_, rfl, (by show 1 ≤ sizeLine; decide), fun b1 hb1 => ?_⟩
  have nbb1 := k.bag.fresh hb1
  have s2 := same_upd hb1 (.lst [od])
  have gb1 : upd H1 b1 (.lst [od]) b1 = some (.lst [od]) := upd_same
  have k := k.same s2
  have ga1 := s2 _ _ ga1
  generalize upd H1 b1 (.lst [od]) = H2 at s2 gb1 k ga1 ⊢
  refine ⟨a1, b1, _, _, rfl, rfl, ga1, gb1, (by rw [List.length_map, List.length_take]; show _ + 1 ≤ _; omega), fun c1 hc1 => ?_⟩
  have nbc1 := k.bag.fresh hc1
  have s3 := same_upd hc1 (.lst (iv (p.take sp) ++ [od]))
  have gc1 : upd H2 c1 (.lst (iv (p.take sp) ++ [od])) c1 = some (.lst (iv (p.take sp) ++ [od])) := upd_same
  have k := k.same s3
  have ga1 := s3 _ _ ga1
  have gb1 := s3 _ _ gb1
  generalize upd H2 c1 (.lst (iv (p.take sp) ++ [od])) = H3 at s3 gc1 k ga1 gb1 ⊢
  refine ⟨_, rfl, _, rfl, _, rfl, tp, _, rfl, SqL.of k.tp, fun d1 hd1 => ?_⟩
  rw [cut_from]
  have nbd1 := k.bag.fresh hd1
  have s4 := same_upd hd1 (.lst (iv (p.drop sp)))
  have gd1 : upd H3 d1 (.lst (iv (p.drop sp))) d1 = some (.lst (iv (p.drop sp))) := upd_same
  have k := k.same s4
  have ga1 := s4 _ _ ga1
  have gb1 := s4 _ _ gb1
  have gc1 := s4 _ _ gc1
  generalize upd H3 d1 (.lst (iv (p.drop sp))) = H4 at s4 gd1 k ga1 gb1 gc1 ⊢
  refine ⟨c1, d1, _, _, rfl, rfl, gc1, gd1, (by rw [List.length_append, List.length_map, List.length_map, List.length_take, List.length_drop]; show _ + 1 + _ ≤ _; omega), fun e1 he1 => ?_⟩
  have nbe1 := k.bag.fresh he1
  have s5 := same_upd he1 (.lst (iv (p.take sp) ++ [od] ++ iv (p.drop sp)))
  have ge1 : upd H4 e1 (.lst (iv (p.take sp) ++ [od] ++ iv (p.drop sp))) e1 = some (.lst (iv (p.take sp) ++ [od] ++ iv (p.drop sp))) := upd_same
  have k := k.same s5
  have ga1 := s5 _ _ ga1
  have gb1 := s5 _ _ gb1
  have gc1 := s5 _ _ gc1
  have gd1 := s5 _ _ gd1
  generalize upd H4 e1 (.lst (iv (p.take sp) ++ [od] ++ iv (p.drop sp))) = H5 at s5 ge1 k ga1 gb1 gc1 gd1 ⊢
  obtain ⟨ys1, bs1, G1⟩ := put_row ge1 nbe1 (by have e9 : (1 :: q).length = q.length + 1 := rfl; omega) k.od
  refine ⟨_, rfl, (by show 2 ≤ sizeLine; decide), fun t1 ht1 => ?_⟩
  have nbt1 := k.bag.fresh ht1
  have s6 := same_upd ht1 (.tup [V.ref e1, V.ref bt])
  have gt1 : upd H5 t1 (.tup [V.ref e1, V.ref bt]) t1 = some (.tup [V.ref e1, V.ref bt]) := upd_same
  have k := k.same s6
  have ga1 := s6 _ _ ga1
  have gb1 := s6 _ _ gb1
  have gc1 := s6 _ _ gc1
  have gd1 := s6 _ _ gd1
  have ge1 := s6 _ _ ge1
  have G1 := G1.same s6
  generalize upd H5 t1 (.tup [V.ref e1, V.ref bt]) = H6 at s6 gt1 k ga1 gb1 gc1 gd1 ge1 G1 ⊢
  have X1 : GivenAt H6 b t1 := ⟨_, _, gt1, .top G1⟩
  refine ⟨_, rfl, ?_⟩
  refine ⟨_, rfl, _, rfl, _, rfl, bt, _, rfl, SqL.of k.bt, fun a2 ha2 => ?_⟩
  rw [show cutV (iv (1 :: q)) none (some (lw : Int)) = iv ((1 :: q).take lw) from cut_take (by rw [List.length_cons]; exact k.lw)]
  have nba2 := k.bag.fresh ha2
  have s7 := same_upd ha2 (.lst (iv ((1 :: q).take lw)))
  have ga2 : upd H6 a2 (.lst (iv ((1 :: q).take lw))) a2 = some (.lst (iv ((1 :: q).take lw))) := upd_same
  have k := k.same s7
  have X1 := X1.same s7
  generalize upd H6 a2 (.lst (iv ((1 :: q).take lw))) = H7 at s7 ga2 k X1 ⊢
  refine ⟨_, rfl, (by show 1 ≤ sizeLine; decide), fun b2 hb2 => ?_⟩
  have nbb2 := k.bag.fresh hb2
  have s8 := same_upd hb2 (.lst [od])
  have gb2 : upd H7 b2 (.lst [od]) b2 = some (.lst [od]) := upd_same
  have k := k.same s8
  have X1 := X1.same s8
  have ga2 := s8 _ _ ga2
  generalize upd H7 b2 (.lst [od]) = H8 at s8 gb2 k X1 ga2 ⊢
  refine ⟨a2, b2, _, _, rfl, rfl, ga2, gb2, (by rw [List.length_map, List.length_take]; show _ + 1 ≤ _; omega), fun c2 hc2 => ?_⟩
  have nbc2 := k.bag.fresh hc2
  have s9 := same_upd hc2 (.lst (iv ((1 :: q).take lw) ++ [od]))
  have gc2 : upd H8 c2 (.lst (iv ((1 :: q).take lw) ++ [od])) c2 = some (.lst (iv ((1 :: q).take lw) ++ [od])) := upd_same
  have k := k.same s9
  have X1 := X1.same s9
  have ga2 := s9 _ _ ga2
  have gb2 := s9 _ _ gb2
  generalize upd H8 c2 (.lst (iv ((1 :: q).take lw) ++ [od])) = H9 at s9 gc2 k X1 ga2 gb2 ⊢
  refine ⟨_, rfl, _, rfl, _, rfl, bt, _, rfl, SqL.of k.bt, fun d2 hd2 => ?_⟩
  rw [cut_from]
  have nbd2 := k.bag.fresh hd2
  have s10 := same_upd hd2 (.lst (iv ((1 :: q).drop lw)))
  have gd2 : upd H9 d2 (.lst (iv ((1 :: q).drop lw))) d2 = some (.lst (iv ((1 :: q).drop lw))) := upd_same
  have k := k.same s10
  have X1 := X1.same s10
  have ga2 := s10 _ _ ga2
  have gb2 := s10 _ _ gb2
  have gc2 := s10 _ _ gc2
  generalize upd H9 d2 (.lst (iv ((1 :: q).drop lw))) = H10 at s10 gd2 k X1 ga2 gb2 gc2 ⊢
  refine ⟨c2, d2, _, _, rfl, rfl, gc2, gd2, (by rw [List.length_append, List.length_map, List.length_map, List.length_take, List.length_drop]; show _ + 1 + _ ≤ _; omega), fun e2 he2 => ?_⟩
  have nbe2 := k.bag.fresh he2
  have s11 := same_upd he2 (.lst (iv ((1 :: q).take lw) ++ [od] ++ iv ((1 :: q).drop lw)))
  have ge2 : upd H10 e2 (.lst (iv ((1 :: q).take lw) ++ [od] ++ iv ((1 :: q).drop lw))) e2 = some (.lst (iv ((1 :: q).take lw) ++ [od] ++ iv ((1 :: q).drop lw))) := upd_same
  have k := k.same s11
  have X1 := X1.same s11
  have ga2 := s11 _ _ ga2
  have gb2 := s11 _ _ gb2
  have gc2 := s11 _ _ gc2
  have gd2 := s11 _ _ gd2
  generalize upd H10 e2 (.lst (iv ((1 :: q).take lw) ++ [od] ++ iv ((1 :: q).drop lw))) = H11 at s11 ge2 k X1 ga2 gb2 gc2 gd2 ⊢
  obtain ⟨ys2, bs2, G2⟩ := put_row ge2 nbe2 (by have e9 : (1 :: q).length = q.length + 1 := rfl; omega) k.od
  refine ⟨(by show 2 ≤ sizeLine; decide), fun t2 ht2 => ?_⟩
  have nbt2 := k.bag.fresh ht2
  have s12 := same_upd ht2 (.tup [V.ref tp, V.ref e2])
  have gt2 : upd H11 t2 (.tup [V.ref tp, V.ref e2]) t2 = some (.tup [V.ref tp, V.ref e2]) := upd_same
  have k := k.same s12
  have X1 := X1.same s12
  have ga2 := s12 _ _ ga2
  have gb2 := s12 _ _ gb2
  have gc2 := s12 _ _ gc2
  have gd2 := s12 _ _ gd2
  have ge2 := s12 _ _ ge2
  have G2 := G2.same s12
  generalize upd H11 t2 (.tup [V.ref tp, V.ref e2]) = H12 at s12 gt2 k X1 ga2 gb2 gc2 gd2 ge2 G2 ⊢
  have X2 : GivenAt H12 b t2 := ⟨_, _, gt2, .bot k.tp (by omega) G2⟩
  refine ⟨_, rfl, _, rfl, (by show 1 ≤ sizeLine; decide), fun b3 hb3 => ?_⟩
  have nbb3 := k.bag.fresh hb3
  have s13 := same_upd hb3 (.lst [fv])
  have gb3 : upd H12 b3 (.lst [fv]) b3 = some (.lst [fv]) := upd_same
  have k := k.same s13
  have X1 := X1.same s13
  have X2 := X2.same s13
  generalize upd H12 b3 (.lst [fv]) = H13 at s13 gb3 k X1 X2 ⊢
  refine ⟨_, rfl, _, rfl, bt, _, rfl, SqL.of k.bt, fun d3 hd3 => ?_⟩
  rw [show cutV (iv (1 :: q)) (some (1 : Int)) none = iv q from cut_from (1 :: q) 1]
  have nbd3 := k.bag.fresh hd3
  have s14 := same_upd hd3 (.lst (iv q))
  have gd3 : upd H13 d3 (.lst (iv q)) d3 = some (.lst (iv q)) := upd_same
  have k := k.same s14
  have X1 := X1.same s14
  have X2 := X2.same s14
  have gb3 := s14 _ _ gb3
  generalize upd H13 d3 (.lst (iv q)) = H14 at s14 gd3 k X1 X2 gb3 ⊢
  refine ⟨b3, d3, _, _, rfl, rfl, gb3, gd3, (by rw [List.length_map]; show 1 + _ ≤ _; omega), fun e3 he3 => ?_⟩
  have nbe3 := k.bag.fresh he3
  have s15 := same_upd he3 (.lst ([fv] ++ iv q))
  have ge3 : upd H14 e3 (.lst ([fv] ++ iv q)) e3 = some (.lst ([fv] ++ iv q)) := upd_same
  have k := k.same s15
  have X1 := X1.same s15
  have X2 := X2.same s15
  have gb3 := s15 _ _ gb3
  have gd3 := s15 _ _ gd3
  generalize upd H14 e3 (.lst ([fv] ++ iv q)) = H15 at s15 ge3 k X1 X2 gb3 gd3 ⊢
  refine ⟨(by show 2 ≤ sizeLine; decide), fun t3 ht3 => ?_⟩
  have nbt3 := k.bag.fresh ht3
  have s16 := same_upd ht3 (.tup [V.ref tp, V.ref e3])
  have gt3 : upd H15 t3 (.tup [V.ref tp, V.ref e3]) t3 = some (.tup [V.ref tp, V.ref e3]) := upd_same
  have k := k.same s16
  have X1 := X1.same s16
  have X2 := X2.same s16
  have gb3 := s16 _ _ gb3
  have gd3 := s16 _ _ gd3
  have ge3 := s16 _ _ ge3
  generalize upd H15 t3 (.tup [V.ref tp, V.ref e3]) = H16 at s16 gt3 k X1 X2 gb3 gd3 ge3 ⊢
  have X3 : GivenAt H16 b t3 := by
    rcases k.fv with ho | ⟨z, rfl, nz⟩
    · obtain ⟨ys, bs, G3⟩ := put_row (p := q) (n := 0) (od := fv) ge3 nbe3 (by omega) ho
      exact ⟨_, _, gt3, .bot k.tp (by omega) G3⟩
    · exact ⟨_, _, gt3, .first (q := z :: q) k.tp (by omega) ge3 (by rw [List.length_cons]; omega) (.inr nz)⟩
  refine ⟨(by show 3 ≤ sizeLine; decide), fun gl hgl => ?_⟩
  have nbgl := k.bag.fresh hgl
  have s17 := same_upd hgl (.lst [V.ref t1, V.ref t2, V.ref t3])
  have ggl : upd H16 gl (.lst [V.ref t1, V.ref t2, V.ref t3]) gl = some (.lst [V.ref t1, V.ref t2, V.ref t3]) := upd_same
  have k := k.same s17
  have X1 := X1.same s17
  have X2 := X2.same s17
  have X3 := X3.same s17
  generalize upd H16 gl (.lst [V.ref t1, V.ref t2, V.ref t3]) = H17 at s17 ggl k X1 X2 X3 ⊢
  exact hq D _ _ ⟨b, c, tp, bt, gl, t1, t2, t3, od, fv, p, q, sp, lw, k, ggl, nbgl, X1, X2, X3, _, _, _, _, _, _, rfl⟩ post
end
end
end Un
namespace Un
open PySem L2 TL
section
variable {P : Program} {w : World} {K : PySem.W.Frag} {mg : Str → Option Value} {base : Heap}
theorem K4.kp {T : TL'} {H H' : Hp} {b c tp bt : Addr} {od fv : V} {p q : SerM.Po} {sp lw : Nat} (k : K4 T H b c tp bt od fv p q sp lw) (B' : Bag H' b c) (s : Kp b H H') : K4 T H' b c tp bt od fv p q sp lw :=
  ⟨B', Tabs_kp k.bag s k.tabs, s _ _ k.tp (iv_bag k.bag k.tp), s _ _ k.bt (iv_bag k.bag k.bt), k.od.kp k.bag s, k.fv.elim (fun h => .inl (h.kp k.bag s)) .inr, k.fp, k.fq, k.sp, k.l1, k.lw⟩
def Pre3 (T : TL') (scr : Addr) (σ : L2.St) (H : Hp) : Prop := ∃ (b c tp bt gl : Addr) (ts : List Addr) (od fv : V) (p q : SerM.Po) (sp lw : Nat), K4 T H b c tp bt od fv p q sp lw ∧ H gl = some (.lst (ts.map V.ref)) ∧ ts.length = 6 ∧ (∀ t ∈ ts, GivenAt H b t) ∧ ∃ v2 v10 v11 v12 v13 v14 : Option V, σ = [some (.ref scr), some (.ref b), v2, some (.ref tp), some (.ref bt), some od, some (.int (sp : Nat)), some (.int (lw : Nat)), some fv, some (.ref gl), v10, v11, v12, v13, v14]
section
variable {C CI CN g ff U M' NL f scr c0 P0 : Addr} {oc kV doc pm cdw ct : Value} {od an : Option Addr} {osl : Array (Option Value)} {fdF : FuncData} {T : TL'} {A : Around} {outer : List Env} {s : Shared} {H0 : Hp} {E : XK} {J : L2.St → Hp → Prop}
theorem segC (L : LawD P w K mg base C CI CN g ff U M' NL oc kV doc pm cdw ct od an osl fdF) (TB : LamX.TabB base mg c0 P0) (hT : T = [(P0, (lawX P w K mg base f (.ref c0) A outer s H0 E).env.qual ++ "<lambda>")]) (hr : Room 10 (lawX P w K mg base f (.ref c0) A outer s H0 E).A) (next : SegP (lawX P w K mg base f (.ref c0) A outer s H0 E) 6 (Pre3 T scr) (LInv T scr)) : SegP (lawX P w K mg base f (.ref c0) A outer s H0 E) 5 (Pre2 T scr) (LInv T scr) := by
  obtain ⟨t, ht, hq⟩ := next
  have C' := L.sc
  have Tx := L.T
  obtain ⟨_, _, DP⟩ := L.pull
  obtain ⟨_, _, DA⟩ := L.any
  obtain ⟨_, _, DPr⟩ := L.pair
  obtain ⟨_, _, DSo⟩ := L.so
  obtain ⟨_, _, DS⟩ := L.same
  refine ⟨_, (pss_cons (ps_set (i := 9) scLaw.nd rfl (by first | exact Or.inl rfl | exact Or.inr rfl) (pe_op op_cat (pv 9) (pe_lst (pa_cons (pe_tup (pa_cons (pv 3) (pa_cons (pe_lst pa_nil) pa_nil))) (pa_cons (pe_tup (pa_cons (pe_call DA.ok (hr.mono (by decide)) (by rfl) DA.m DA.kp DA.b .nil pass0 (pa_cons (pv 1) (pa_cons (pe_lst (pa_cons pe_non (pa_cons pe_int (pa_cons pe_str (pa_cons pe_bl (pa_cons pe_dnewK pa_nil)))))) pa_nil))) (pa_cons (pv 4) pa_nil))) (pa_cons (pe_tup (pa_cons (pv 3) (pa_cons (pe_call DA.ok (hr.mono (by decide)) (by rfl) DA.m DA.kp DA.b .nil pass0 (pa_cons (pv 1) (pa_cons (pe_lst (pa_cons pe_non (pa_cons pe_int (pa_cons pe_str (pa_cons (pe_disp (pps_cons pe_int pe_int pps_nil) (by rfl) (by rfl) (by simp) (by decide)) pa_nil))))) pa_nil))) pa_nil))) pa_nil))))))
 ht), fun D σ H pre post => ?_⟩
  obtain ⟨b, c, tp, bt, gl, t1, t2, t3, od, fv, p, q, sp, lw, k, hgl, ngl, X1, X2, X3, v2, v10, v11, v12, v13, v14, rfl⟩ := pre
  have hsz : 1000000 < sizeLine := by decide
  have Lp := k.fp.l
  have Lq := k.fq.l
  have e9 : (1 :: q).length = q.length + 1 := rfl
  rw [List.length_cons] at Lq
  refine ⟨_, rfl, _, rfl, (by show 0 ≤ sizeLine; decide), fun l4 hl4 => ?_⟩
  have nbl4 := k.bag.fresh hl4
  have s1 := same_upd hl4 (.lst ([] : List V))
  have gl4 : upd H l4 (.lst ([] : List V)) l4 = some (.lst ([] : List V)) := upd_same
  have k := k.same s1
  have hgl := s1 _ _ hgl
  have X1 := X1.same s1
  have X2 := X2.same s1
  have X3 := X3.same s1
  generalize upd H l4 (.lst ([] : List V)) = H1 at s1 gl4 k hgl X1 X2 X3 ⊢
  refine ⟨(by show 2 ≤ sizeLine; decide), fun t4 ht4 => ?_⟩
  have nbt4 := k.bag.fresh ht4
  have s2 := same_upd ht4 (.tup [V.ref tp, V.ref l4])
  have gt4 : upd H1 t4 (.tup [V.ref tp, V.ref l4]) t4 = some (.tup [V.ref tp, V.ref l4]) := upd_same
  have k := k.same s2
  have hgl := s2 _ _ hgl
  have X1 := X1.same s2
  have X2 := X2.same s2
  have X3 := X3.same s2
  have gl4 := s2 _ _ gl4
  generalize upd H1 t4 (.tup [V.ref tp, V.ref l4]) = H2 at s2 gt4 k hgl X1 X2 X3 gl4 ⊢
  have X4 : GivenAt H2 b t4 := ⟨_, _, gt4, .first (q := []) k.tp (by omega) gl4 (by decide) (.inl rfl)⟩
  refine ⟨_, rfl, ?_⟩
  intro d5 hd5
  have nbd5 := k.bag.fresh hd5
  have s3 := same_upd hd5 (.dK [])
  have gd5 : upd H2 d5 (.dK []) d5 = some (.dK []) := upd_same
  have k := k.same s3
  have hgl := s3 _ _ hgl
  have X1 := X1.same s3
  have X2 := X2.same s3
  have X3 := X3.same s3
  have X4 := X4.same s3
  generalize upd H2 d5 (.dK []) = H3 at s3 gd5 k hgl X1 X2 X3 X4 ⊢
  refine ⟨(by show 5 ≤ sizeLine; decide), fun m5 hm5 => ?_⟩
  have nbm5 := k.bag.fresh hm5
  have s4 := same_upd hm5 (.lst [V.non, V.int 3, V.str "12", V.bl true, V.ref d5])
  have gm5 : upd H3 m5 (.lst [V.non, V.int 3, V.str "12", V.bl true, V.ref d5]) m5 = some (.lst [V.non, V.int 3, V.str "12", V.bl true, V.ref d5]) := upd_same
  have k := k.same s4
  have hgl := s4 _ _ hgl
  have X1 := X1.same s4
  have X2 := X2.same s4
  have X3 := X3.same s4
  have X4 := X4.same s4
  have gd5 := s4 _ _ gd5
  generalize upd H3 m5 (.lst [V.non, V.int 3, V.str "12", V.bl true, V.ref d5]) = H4 at s4 gm5 k hgl X1 X2 X3 X4 gd5 ⊢
  refine ⟨b, c, .ref m5, [V.non, V.int 3, V.str "12", V.bl true, V.ref d5], rfl, k.bag, .inl ⟨m5, rfl, nbm5, SqL.of gm5⟩, (by show 0 < 5; decide), (by show 5 < 1073741824; decide), fun y5 H5 hy5 B5 k5 => ?_⟩
  have F5 : FlatV H4 y5 := by
    simp only [List.mem_cons, List.not_mem_nil, or_false] at hy5
    rcases hy5 with rfl | rfl | rfl | rfl | rfl
    · exact .non
    · exact .int
    · exact .str
    · exact .bl
    · exact .dict gd5
  have X1 := X1.kp k.bag k5
  have X2 := X2.kp k.bag k5
  have X3 := X3.kp k.bag k5
  have X4 := X4.kp k.bag k5
  have F5 := F5.kp k.bag k5
  have hgl := k5 _ _ hgl ngl
  have k := k.kp B5 k5
  refine ⟨_, rfl, (by show 2 ≤ sizeLine; decide), fun t5 ht5 => ?_⟩
  have nbt5 := k.bag.fresh ht5
  have s6 := same_upd ht5 (.tup [y5, V.ref bt])
  have gt5 : upd H5 t5 (.tup [y5, V.ref bt]) t5 = some (.tup [y5, V.ref bt]) := upd_same
  have k := k.same s6
  have hgl := s6 _ _ hgl
  have X1 := X1.same s6
  have X2 := X2.same s6
  have X3 := X3.same s6
  have X4 := X4.same s6
  have F5 := F5.same s6
  generalize upd H5 t5 (.tup [y5, V.ref bt]) = H6 at s6 gt5 k hgl X1 X2 X3 X4 F5 ⊢
  have X5 : GivenAt H6 b t5 := ⟨_, _, gt5, .flat F5⟩
  refine ⟨_, rfl, _, rfl, ?_⟩
  intro d6 hd6
  refine ⟨upd_same, [(Sum.inl 1, V.int 1)], rfl, by decide, ?_⟩
  obtain ⟨es6, ee6⟩ : ∃ es : List (Key × V), es = mergeK [] [(Sum.inl 1, V.int 1)] := ⟨_, rfl⟩
  rw [← ee6]
  have s7 := same_wr (same_upd hd6 (.dK [])) hd6 (.dK es6)
  have gd6 : upd (upd H6 d6 (.dK [])) d6 (.dK es6) d6 = some (.dK es6) := upd_same
  have k := k.same s7
  have hgl := s7 _ _ hgl
  have X1 := X1.same s7
  have X2 := X2.same s7
  have X3 := X3.same s7
  have X4 := X4.same s7
  have X5 := X5.same s7
  generalize upd (upd H6 d6 (.dK [])) d6 (.dK es6) = H7 at s7 gd6 k hgl X1 X2 X3 X4 X5 ⊢
  refine ⟨(by show 4 ≤ sizeLine; decide), fun m6 hm6 => ?_⟩
  have nbm6 := k.bag.fresh hm6
  have s8 := same_upd hm6 (.lst [V.non, V.int 1, V.str "1", V.ref d6])
  have gm6 : upd H7 m6 (.lst [V.non, V.int 1, V.str "1", V.ref d6]) m6 = some (.lst [V.non, V.int 1, V.str "1", V.ref d6]) := upd_same
  have k := k.same s8
  have hgl := s8 _ _ hgl
  have X1 := X1.same s8
  have X2 := X2.same s8
  have X3 := X3.same s8
  have X4 := X4.same s8
  have X5 := X5.same s8
  have gd6 := s8 _ _ gd6
  generalize upd H7 m6 (.lst [V.non, V.int 1, V.str "1", V.ref d6]) = H8 at s8 gm6 k hgl X1 X2 X3 X4 X5 gd6 ⊢
  refine ⟨b, c, .ref m6, [V.non, V.int 1, V.str "1", V.ref d6], rfl, k.bag, .inl ⟨m6, rfl, nbm6, SqL.of gm6⟩, (by show 0 < 4; decide), (by show 4 < 1073741824; decide), fun y6 H9 hy6 B9 k9 => ?_⟩
  have F6 : FlatV H8 y6 := by
    simp only [List.mem_cons, List.not_mem_nil, or_false] at hy6
    rcases hy6 with rfl | rfl | rfl | rfl
    · exact .non
    · exact .int
    · exact .str
    · exact .dict gd6
  have X1 := X1.kp k.bag k9
  have X2 := X2.kp k.bag k9
  have X3 := X3.kp k.bag k9
  have X4 := X4.kp k.bag k9
  have X5 := X5.kp k.bag k9
  have F6 := F6.kp k.bag k9
  have hgl := k9 _ _ hgl ngl
  have k := k.kp B9 k9
  refine ⟨(by show 2 ≤ sizeLine; decide), fun t6 ht6 => ?_⟩
  have nbt6 := k.bag.fresh ht6
  have s10 := same_upd ht6 (.tup [V.ref tp, y6])
  have gt6 : upd H9 t6 (.tup [V.ref tp, y6]) t6 = some (.tup [V.ref tp, y6]) := upd_same
  have k := k.same s10
  have hgl := s10 _ _ hgl
  have X1 := X1.same s10
  have X2 := X2.same s10
  have X3 := X3.same s10
  have X4 := X4.same s10
  have X5 := X5.same s10
  have F6 := F6.same s10
  generalize upd H9 t6 (.tup [V.ref tp, y6]) = H10 at s10 gt6 k hgl X1 X2 X3 X4 X5 F6 ⊢
  have X6 : GivenAt H10 b t6 := ⟨_, _, gt6, .botF k.tp (by omega) F6⟩
  refine ⟨(by show 3 ≤ sizeLine; decide), fun g2 hg2 => ?_⟩
  have nbg2 := k.bag.fresh hg2
  have s11 := same_upd hg2 (.lst [V.ref t4, V.ref t5, V.ref t6])
  have gg2 : upd H10 g2 (.lst [V.ref t4, V.ref t5, V.ref t6]) g2 = some (.lst [V.ref t4, V.ref t5, V.ref t6]) := upd_same
  have k := k.same s11
  have hgl := s11 _ _ hgl
  have X1 := X1.same s11
  have X2 := X2.same s11
  have X3 := X3.same s11
  have X4 := X4.same s11
  have X5 := X5.same s11
  have X6 := X6.same s11
  generalize upd H10 g2 (.lst [V.ref t4, V.ref t5, V.ref t6]) = H11 at s11 gg2 k hgl X1 X2 X3 X4 X5 X6 ⊢
  refine ⟨gl, g2, _, _, rfl, rfl, hgl, gg2, (by show 6 ≤ sizeLine; decide), fun g3 hg3 => ?_⟩
  have nbg3 := k.bag.fresh hg3
  have s12 := same_upd hg3 (.lst ([V.ref t1, V.ref t2, V.ref t3] ++ [V.ref t4, V.ref t5, V.ref t6]))
  have gg3 : upd H11 g3 (.lst ([V.ref t1, V.ref t2, V.ref t3] ++ [V.ref t4, V.ref t5, V.ref t6])) g3 = some (.lst ([V.ref t1, V.ref t2, V.ref t3] ++ [V.ref t4, V.ref t5, V.ref t6])) := upd_same
  have k := k.same s12
  have hgl := s12 _ _ hgl
  have X1 := X1.same s12
  have X2 := X2.same s12
  have X3 := X3.same s12
  have X4 := X4.same s12
  have X5 := X5.same s12
  have X6 := X6.same s12
  have gg2 := s12 _ _ gg2
  generalize upd H11 g3 (.lst ([V.ref t1, V.ref t2, V.ref t3] ++ [V.ref t4, V.ref t5, V.ref t6])) = H12 at s12 gg3 k hgl X1 X2 X3 X4 X5 X6 gg2 ⊢
  refine hq D _ _ ⟨b, c, tp, bt, g3, [t1, t2, t3, t4, t5, t6], od, fv, p, q, sp, lw, k, gg3, rfl, fun t ht => ?_, _, _, _, _, _, _, rfl⟩ post
  simp only [List.mem_cons, List.not_mem_nil, or_false] at ht
  rcases ht with rfl | rfl | rfl | rfl | rfl | rfl
  · exact X1
  · exact X2
  · exact X3
  · exact X4
  · exact X5
  · exact X6
end
end
end Un
namespace Un
open PySem L2 TL
section
variable {P : Program} {w : World} {K : PySem.W.Frag} {mg : Str → Option Value} {base : Heap}
theorem ixT4 {X : Cx} {K : PySem.W.Frag} (h : X.K = K) : IxR X (rIxT K) := h ▸ ix_tup
theorem OddV.ext {H H' : Hp} {v : V} (h : OddV H v) (e : LamX.ExtN H H') : OddV H' v := by
  cases h with
  | non => exact .non
  | bl => exact .bl
  | str => exact .str
  | lst h => exact .lst (e _ _ h fun _ z => nomatch z)
  | tup h => exact .tup (e _ _ h fun _ z => nomatch z)
theorem ItemV.ext {H H' : Hp} {y : V} {b : Bool} (h : ItemV H y b) (e : LamX.ExtN H H') : ItemV H' y b := by
  rcases h with ⟨e1, h⟩ | h
  · exact .inl ⟨e1, h.ext e⟩
  · exact .inr h
theorem GRow.ext {H H' : Hp} {b a : Addr} {ys : List V} {bs : List Bool} (h : GRow H b a ys bs) (e : LamX.ExtN H H') : GRow H' b a ys bs :=
  ⟨e _ _ h.at_ (fun _ z => nomatch z), h.ne, h.len, h.le, fun i y x h1 h2 => (h.it i y x h1 h2).ext e, h.no⟩
theorem FlatV.ext {H H' : Hp} {v : V} (h : FlatV H v) (e : LamX.ExtN H H') : FlatV H' v := by
  cases h with
  | non => exact .non
  | bl => exact .bl
  | int => exact .int
  | str => exact .str
  | dict h => exact .dict (e _ _ h fun _ z => nomatch z)
theorem GBad.ext {H H' : Hp} {b : Addr} {x y : V} (h : GBad H b x y) (e : LamX.ExtN H H') : GBad H' b x y := by
  have l : ∀ {a : Addr} {xs : List V}, H a = some (.lst xs) → H' a = some (.lst xs) := fun h => e _ _ h fun _ z => nomatch z
  cases h with
  | top h => exact .top (h.ext e)
  | flat h => exact .flat (h.ext e)
  | bot h m g => exact .bot (l h) m (g.ext e)
  | botF h m g => exact .botF (l h) m (g.ext e)
  | first h m g n e1 => exact .first (l h) m (l g) n e1
theorem GivenAt.ext {H H' : Hp} {b t : Addr} (h : GivenAt H b t) (e : LamX.ExtN H H') : GivenAt H' b t := by
  obtain ⟨x, y, h1, h2⟩ := h
  exact ⟨x, y, e _ _ h1 (fun _ z => nomatch z), h2.ext e⟩
theorem K4.ext {T : TL'} {H H' : Hp} {b c tp bt : Addr} {od fv : V} {p q : SerM.Po} {sp lw : Nat} (k : K4 T H b c tp bt od fv p q sp lw) (e : LamX.ExtN H H') (t : LamX.Tabs T H') : K4 T H' b c tp bt od fv p q sp lw :=
  ⟨Bag_ext k.bag e, t, e _ _ k.tp (fun _ z => nomatch z), e _ _ k.bt (fun _ z => nomatch z), k.od.ext e, k.fv.elim (fun h => .inl (h.ext e)) .inr, k.fp, k.fq, k.sp, k.l1, k.lw⟩
theorem map_get4 {α : Type} {g : α → V} {l : List α} {i : Nat} {v : V} (h : (l.map g)[i]? = some v) : ∃ a, l[i]? = some a ∧ v = g a := by
  rw [List.getElem?_map] at h
  cases hh : l[i]? with
  | none => rw [hh] at h; cases h
  | some a => rw [hh] at h; injection h with h; exact ⟨a, rfl, h.symm⟩
theorem Tabs_wr {T : List (Addr × Str)} {H : Hp} {q : Addr} {xs : List V} (hq : H q = some (.lst xs)) (t : LamX.Tabs T H) (ys : List V) : LamX.Tabs T (upd H q (.lst ys)) := fun p hp => by
  obtain ⟨ps, h1, h2, h3⟩ := t p hp
  refine ⟨ps, by rw [upd_ne (ne_of h1 hq (by intro z; cases z))]; exact h1, h2, fun pos cv hc => ?_⟩
  obtain ⟨d, e1, e2⟩ := h3 pos cv hc
  exact ⟨d, e1, by rw [upd_ne (ne_of e2 hq (by intro z; cases z))]; exact e2⟩
section
variable {C CI CN g ff U M' NL f scr c0 P0 : Addr} {oc kV doc pm cdw ct : Value} {od an : Option Addr} {osl : Array (Option Value)} {fdF : FuncData} {T : TL'} {A : Around} {outer : List Env} {s : Shared} {H0 : Hp} {E : XK} {J : L2.St → Hp → Prop}
theorem segD (L : LawD P w K mg base C CI CN g ff U M' NL oc kV doc pm cdw ct od an osl fdF) (TB : LamX.TabB base mg c0 P0) (hT : T = [(P0, (lawX P w K mg base f (.ref c0) A outer s H0 E).env.qual ++ "<lambda>")]) (hr : Room 10 (lawX P w K mg base f (.ref c0) A outer s H0 E).A) (next : SegP (lawX P w K mg base f (.ref c0) A outer s H0 E) 7 (Pre3 T scr) (LInv T scr)) : SegP (lawX P w K mg base f (.ref c0) A outer s H0 E) 6 (Pre3 T scr) (LInv T scr) := by
  obtain ⟨t, ht, hq⟩ := next
  have C' := L.sc
  have Tx := L.T
  obtain ⟨_, _, DP⟩ := L.pull
  obtain ⟨_, _, DA⟩ := L.any
  obtain ⟨_, _, DPr⟩ := L.pair
  obtain ⟨_, _, DSo⟩ := L.so
  obtain ⟨_, _, DS⟩ := L.same
  obtain ⟨fB, fdB, ggB, mkB, okB, bB, kbB⟩ := L.bad
  refine ⟨_, (pss_cons (ps_if (pt_not (pt_val (pe_callB (cr_all rfl) (by rfl) Tx.all (by decide +kernel) (pa_cons (pe_lc (own := [("_law_pair_here", 14)]) (g := (gName 14)) rfl scLaw.nd (pi_list (pv 9)) (blkOk_by (own := [("_law_pair_here", 14)]) (N := ["_law_script", "_law_bag_here", "_law_turn", "_law_top_z", "_law_bottom_z", "_law_odd", "_law_spot", "_law_low", "_law_first", "_law_given", "_law_one", "_law_wrong", "_law_found", "_law_most", "_law_pair_here"]) (sc := defScope sLaw) (by decide +kernel)) (fun _ _ _ _ _ => (pg_name (i := 14) scLaw.nd rfl (by first | exact Or.inl rfl | exact Or.inr rfl) (by first | exact Or.inl rfl | exact Or.inr rfl))) (fun _ _ _ _ _ => pts_nil) (fun _ _ _ _ _ => (pe_call DS.ok (hr.mono (by decide)) (by rfl) DS.m DS.kp DS.b .nil pass0 (pa_cons (LamX.pe_lamcall (T := T) (TT := TWhy K [.ref U, .ref M', .ref NL]) (k := 8) (t := fun E => tMake C (spSerB K CI) [] E (tCons (tOp (rIxT K) (tVar 14) (tC (.int 0))) (tCons (tOp (rIxT K) (tVar 14) (tC (.int 1))) tNil))) (by rfl) L.mW L.kW L.lkW L.hcW L.bW scWhy rfl (Or.inl rfl) (why_gives (hr.mono (by decide)) L.GFd L.bF L.kF L.mF L.mU L.mM L.mN) TB rfl (by rw [hT]; exact List.mem_singleton.mpr rfl) (fun p hp _ => by rw [hT] at hp; rw [List.mem_singleton.mp hp]; rfl) (hr.mono (by decide)) (LamX.lamS_by (sc := { kind := ScopeKind.function, names := [(".0", NameKind.local), ("_law_pair_here", NameKind.cell), ("_law_same", NameKind.globalImplicit), ("_law_why", NameKind.globalImplicit)], isGenerator := false, isCoroutine := false }) (by decide +kernel)) rfl (fun _ _ _ _ _ => by rfl)
   (fun A outer s H E f c' hr2 => (pe_make mkB okB (hr2.mono (by decide)) (by rfl) L.mS bB .nil (passes_call (takes_of rfl rfl rfl rfl) fun _ _ _ _ h => h) (pa_cons (pe_ix (ixT4 (K := K) rfl) (pv 14) pe_int (fun _ _ => rfl)) (pa_cons (pe_ix (ixT4 (K := K) rfl) (pv 14) pe_int (fun _ _ => rfl)) pa_nil))))) (pa_cons (pe_tup (pa_cons pe_str (pa_cons (pe_tup pa_nil) pa_nil))) pa_nil))))) pa_nil))))
 (pss_one (ps_ret pe_bl))
 pss_nil)
 ht), fun D σ H pre post => ?_⟩
  obtain ⟨b, c, tp, bt, gl, ts, od, fv, p, q, sp, lw, k, hgl, hts, X, v2, v10, v11, v12, v13, v14, rfl⟩ := pre
  have hsz : 1000000 < sizeLine := by decide
  refine ⟨_, rfl, gl, rfl, ⟨_, SqL.of hgl⟩, fun m hm => ?_⟩
  have hn : (ts.map V.ref).length = 6 := by rw [List.length_map]; exact hts
  refine lc_it (walk_list (K := K) (xs := ts.map V.ref)) (fun i H2 => LamX.ExtN H H2 ∧ LamX.Tabs T H2 ∧ H2 m = some (.lst (List.replicate i (V.bl true)))) ⟨LamX.ExtN.of (same_upd hm _), k.tabs.ext (same_upd hm _), upd_same⟩ (fun i H2 _ h => SqL.of (h.1 _ _ hgl fun _ z => nomatch z)) ?_ ?_
  · rintro i v H2 H3 hi ⟨e2, tb2, h2⟩ ⟨rfl, hz⟩
    obtain ⟨t', ht', rfl⟩ := map_get4 hz
    have X2 := (X t' (List.mem_of_getElem? ht')).ext e2
    obtain ⟨x, y, h1, hb⟩ := X2
    refine ⟨rfl, tb2, fun H4 ext tabs4 => ?_⟩
    have h1' := ext _ _ h1 (fun _ z => nomatch z)
    have hb' := hb.ext ext
    have h2' := ext _ _ h2 (fun _ z => nomatch z)
    have e4 := e2.trans ext
    refine ⟨_, rfl, t', _, _, _, rfl, rfl, SqT.of h1', rfl, _, rfl, t', _, _, _, rfl, rfl, SqT.of h1', rfl, ?_⟩
    intro sa sd hsa hsd sne
    have hs1 : upd H4 sd (.own sa) sa = none := by rw [upd_ne sne.symm]; exact hsa
    have s5 : Same H4 (upd (upd H4 sd (.own sa)) sa (.ins C sd [])) := (same_upd hsd _).trans (same_upd hs1 _)
    refine ⟨sa, x, y, rfl, hb'.bad.same s5, fun d' H6 s6 hd hd' => ⟨"InvalidSeries", [], ⟨CI, d', _, rfl, L.erI.xf, L.erI.at_, rfl, hd', rfl, .cInvalidSeries⟩, L.erI.ex, fun t2 t1 H7 s7 ht2 ht1 ht2' => ?_⟩⟩
    have s47 := s5.trans (s6.trans s7)
    refine ⟨(by show 0 ≤ sizeLine; decide), fun t3 ht3 => ?_⟩
    have s8 := same_upd ht3 (.tup ([] : List V))
    have g3 : upd H7 t3 (.tup ([] : List V)) t3 = some (.tup []) := upd_same
    have ht1 := s8 _ _ ht1
    have ht2' := s8 _ _ ht2'
    generalize upd H7 t3 (.tup ([] : List V)) = H8 at s8 g3 ht1 ht2' ⊢
    refine ⟨(by show 2 ≤ sizeLine; decide), fun t4 ht4 => ?_⟩
    have s9 := same_upd ht4 (.tup [V.str "InvalidSeries", V.ref t3])
    have g4 : upd H8 t4 (.tup [V.str "InvalidSeries", V.ref t3]) t4 = some (.tup [V.str "InvalidSeries", V.ref t3]) := upd_same
    have ht1 := s9 _ _ ht1
    have ht2' := s9 _ _ ht2'
    have g3 := s9 _ _ g3
    generalize upd H8 t4 (.tup [V.str "InvalidSeries", V.ref t3]) = H9 at s9 g3 g4 ht1 ht2' ⊢
    refine ⟨.ref t2, .ref t4, rfl, eqv_told 3 ht2' ht1 g4 g3 (by decide) (fun z hz => nomatch hz), fun H10 s10 => ?_⟩
    have s410 := s47.trans (s8.trans (s9.trans s10))
    have eA := e4.trans (LamX.ExtN.of s410)
    refine ⟨_, s410 _ _ h2', by rw [List.length_replicate]; omega, fun o ob hb1 hb2 => ?_, ?_, ?_⟩
    · rw [upd_ne (ne_of_none hb1 hm)]; exact eA _ _ hb1 hb2
    · exact Tabs_wr (s410 _ _ h2') (tabs4.ext s410) _
    · rw [upd_same, List.replicate_succ']
  rintro H2 ⟨e2, tb2, h2⟩
  rw [hn] at h2
  refine ⟨m, List.replicate 6 true, rfl, SqL.of (by rw [h2, List.map_replicate]), ?_⟩
  rw [show (List.replicate 6 true).all id = true from rfl]
  refine ⟨_, rfl, iteF ?_⟩
  exact hq D _ _ ⟨b, c, tp, bt, gl, ts, od, fv, p, q, sp, lw, k.ext e2 tb2, e2 _ _ hgl (fun _ z => nomatch z), hts, fun t ht => (X t ht).ext e2, _, _, _, _, _, _, rfl⟩ post
end
end
end Un
namespace Un
open PySem L2 TL
section
variable {P : Program} {w : World} {K : PySem.W.Frag} {mg : Str → Option Value} {base : Heap}
section
variable {C CI CN g ff U M' NL f scr c0 P0 : Addr} {oc kV doc pm cdw ct : Value} {od an : Option Addr} {osl : Array (Option Value)} {fdF : FuncData} {T : TL'} {A : Around} {outer : List Env} {s : Shared} {H0 : Hp} {E : XK} {J : L2.St → Hp → Prop}
theorem segE (L : LawD P w K mg base C CI CN g ff U M' NL oc kV doc pm cdw ct od an osl fdF) (TB : LamX.TabB base mg c0 P0) (hT : T = [(P0, (lawX P w K mg base f (.ref c0) A outer s H0 E).env.qual ++ "<lambda>")]) (hr : Room 10 (lawX P w K mg base f (.ref c0) A outer s H0 E).A) (next : SegP (lawX P w K mg base f (.ref c0) A outer s H0 E) 8 (Pre3 T scr) (LInv T scr)) : SegP (lawX P w K mg base f (.ref c0) A outer s H0 E) 7 (Pre3 T scr) (LInv T scr) := by
  obtain ⟨t, ht, hq⟩ := next
  have C' := L.sc
  have Tx := L.T
  obtain ⟨_, _, DP⟩ := L.pull
  obtain ⟨_, _, DA⟩ := L.any
  obtain ⟨_, _, DPr⟩ := L.pair
  obtain ⟨_, _, DSo⟩ := L.so
  obtain ⟨_, _, DS⟩ := L.same
  obtain ⟨fB, fdB, ggB, mkB, okB, bB, kbB⟩ := L.bad
  refine ⟨_, (pss_cons (ps_if (pt_not (pt_val (pe_callB (cr_all rfl) (by rfl) Tx.all (by decide +kernel) (pa_cons (pe_lc (own := [("_law_pair_here", 14)]) (g := (gName 14)) rfl scLaw.nd (pi_list (pv 9)) (blkOk_by (own := [("_law_pair_here", 14)]) (N := ["_law_script", "_law_bag_here", "_law_turn", "_law_top_z", "_law_bottom_z", "_law_odd", "_law_spot", "_law_low", "_law_first", "_law_given", "_law_one", "_law_wrong", "_law_found", "_law_most", "_law_pair_here"]) (sc := defScope sLaw) (by decide +kernel)) (fun _ _ _ _ _ => (pg_name (i := 14) scLaw.nd rfl (by first | exact Or.inl rfl | exact Or.inr rfl) (by first | exact Or.inl rfl | exact Or.inr rfl))) (fun _ _ _ _ _ => pts_nil) (fun _ _ _ _ _ => (pe_call DS.ok (hr.mono (by decide)) (by rfl) DS.m DS.kp DS.b .nil pass0 (pa_cons (LamX.pe_lamcall (T := T) (TT := TWhy K [.ref U, .ref M', .ref NL]) (k := 8) (t := fun E => tMakeK C 0 ((["bottom", "top"] : List Str).length) (spSerB K CI) (fun vs zs => vs ++ zs.reverse) E tNil (tCons (tOp (rIxT K) (tVar 14) (tC (.int 1))) (tCons (tOp (rIxT K) (tVar 14) (tC (.int 0))) tNil))) (by rfl) L.mW L.kW L.lkW L.hcW L.bW scWhy rfl (Or.inl rfl) (why_gives (hr.mono (by decide)) L.GFd L.bF L.kF L.mF L.mU L.mM L.mN) TB rfl (by rw [hT]; exact List.mem_singleton.mpr rfl) (fun p hp _ => by rw [hT] at hp; rw [List.mem_singleton.mp hp]; rfl) (hr.mono (by decide)) (LamX.lamS_by (sc := { kind := ScopeKind.function, names := [(".0", NameKind.local), ("_law_pair_here", NameKind.cell), ("_law_same", NameKind.globalImplicit), ("_law_why", NameKind.globalImplicit)], isGenerator := false, isCoroutine := false }) (by decide +kernel)) rfl (fun _ _ _ _ _ => by rfl)
   (fun A outer s H E f c' hr2 => (pe_makeK0 (ks := ["bottom", "top"]) mkB okB (hr2.mono (by decide)) (by rfl) L.mS kbB (passes_call (takes_of rfl rfl rfl rfl) fun _ _ _ _ h => h) (pk_cons (pe_ix (ixT4 (K := K) rfl) (pv 14) pe_int (fun _ _ => rfl)) (pk_cons (pe_ix (ixT4 (K := K) rfl) (pv 14) pe_int (fun _ _ => rfl)) pk_nil))))) (pa_cons (pe_tup (pa_cons pe_str (pa_cons (pe_tup pa_nil) pa_nil))) pa_nil))))) pa_nil))))
 (pss_one (ps_ret pe_bl))
 pss_nil)
 ht), fun D σ H pre post => ?_⟩
  obtain ⟨b, c, tp, bt, gl, ts, od, fv, p, q, sp, lw, k, hgl, hts, X, v2, v10, v11, v12, v13, v14, rfl⟩ := pre
  have hsz : 1000000 < sizeLine := by decide
  refine ⟨_, rfl, gl, rfl, ⟨_, SqL.of hgl⟩, fun m hm => ?_⟩
  have hn : (ts.map V.ref).length = 6 := by rw [List.length_map]; exact hts
  refine lc_it (walk_list (K := K) (xs := ts.map V.ref)) (fun i H2 => LamX.ExtN H H2 ∧ LamX.Tabs T H2 ∧ H2 m = some (.lst (List.replicate i (V.bl true)))) ⟨LamX.ExtN.of (same_upd hm _), k.tabs.ext (same_upd hm _), upd_same⟩ (fun i H2 _ h => SqL.of (h.1 _ _ hgl fun _ z => nomatch z)) ?_ ?_
  · rintro i v H2 H3 hi ⟨e2, tb2, h2⟩ ⟨rfl, hz⟩
    obtain ⟨t', ht', rfl⟩ := map_get4 hz
    have X2 := (X t' (List.mem_of_getElem? ht')).ext e2
    obtain ⟨x, y, h1, hb⟩ := X2
    refine ⟨rfl, tb2, fun H4 ext tabs4 => ?_⟩
    have h1' := ext _ _ h1 (fun _ z => nomatch z)
    have hb' := hb.ext ext
    have h2' := ext _ _ h2 (fun _ z => nomatch z)
    have e4 := e2.trans ext
    refine ⟨_, rfl, t', _, _, _, rfl, rfl, SqT.of h1', rfl, _, rfl, t', _, _, _, rfl, rfl, SqT.of h1', rfl, ?_⟩
    refine ⟨rfl, rfl, ?_⟩
    intro sa sd hsa hsd sne
    have hs1 : upd H4 sd (.own sa) sa = none := by rw [upd_ne sne.symm]; exact hsa
    have s5 : Same H4 (upd (upd H4 sd (.own sa)) sa (.ins C sd [])) := (same_upd hsd _).trans (same_upd hs1 _)
    refine ⟨sa, x, y, rfl, hb'.bad.same s5, fun d' H6 s6 hd hd' => ⟨"InvalidSeries", [], ⟨CI, d', _, rfl, L.erI.xf, L.erI.at_, rfl, hd', rfl, .cInvalidSeries⟩, L.erI.ex, fun t2 t1 H7 s7 ht2 ht1 ht2' => ?_⟩⟩
    have s47 := s5.trans (s6.trans s7)
    refine ⟨(by show 0 ≤ sizeLine; decide), fun t3 ht3 => ?_⟩
    have s8 := same_upd ht3 (.tup ([] : List V))
    have g3 : upd H7 t3 (.tup ([] : List V)) t3 = some (.tup []) := upd_same
    have ht1 := s8 _ _ ht1
    have ht2' := s8 _ _ ht2'
    generalize upd H7 t3 (.tup ([] : List V)) = H8 at s8 g3 ht1 ht2' ⊢
    refine ⟨(by show 2 ≤ sizeLine; decide), fun t4 ht4 => ?_⟩
    have s9 := same_upd ht4 (.tup [V.str "InvalidSeries", V.ref t3])
    have g4 : upd H8 t4 (.tup [V.str "InvalidSeries", V.ref t3]) t4 = some (.tup [V.str "InvalidSeries", V.ref t3]) := upd_same
    have ht1 := s9 _ _ ht1
    have ht2' := s9 _ _ ht2'
    have g3 := s9 _ _ g3
    generalize upd H8 t4 (.tup [V.str "InvalidSeries", V.ref t3]) = H9 at s9 g3 g4 ht1 ht2' ⊢
    refine ⟨.ref t2, .ref t4, rfl, eqv_told 3 ht2' ht1 g4 g3 (by decide) (fun z hz => nomatch hz), fun H10 s10 => ?_⟩
    have s410 := s47.trans (s8.trans (s9.trans s10))
    have eA := e4.trans (LamX.ExtN.of s410)
    refine ⟨_, s410 _ _ h2', by rw [List.length_replicate]; omega, fun o ob hb1 hb2 => ?_, ?_, ?_⟩
    · rw [upd_ne (ne_of_none hb1 hm)]; exact eA _ _ hb1 hb2
    · exact Tabs_wr (s410 _ _ h2') (tabs4.ext s410) _
    · rw [upd_same, List.replicate_succ']
  rintro H2 ⟨e2, tb2, h2⟩
  rw [hn] at h2
  refine ⟨m, List.replicate 6 true, rfl, SqL.of (by rw [h2, List.map_replicate]), ?_⟩
  rw [show (List.replicate 6 true).all id = true from rfl]
  refine ⟨_, rfl, iteF ?_⟩
  exact hq D _ _ ⟨b, c, tp, bt, gl, ts, od, fv, p, q, sp, lw, k.ext e2 tb2, e2 _ _ hgl (fun _ z => nomatch z), hts, fun t ht => (X t ht).ext e2, _, _, _, _, _, _, rfl⟩ post
end
end
end Un
namespace Un
open PySem L2 TL
section
variable {P : Program} {w : World} {K : PySem.W.Frag} {mg : Str → Option Value} {base : Heap}
theorem AnyX_kp {H H' : Hp} {b c : Addr} {v : V} (h : AnyX.Wrong H v) (B : Bag H b c) (k : Kp b H H') : AnyX.Wrong H' v := by
  cases h with
  | int h => exact .int h
  | bl => exact .bl
  | non => exact .non
  | str => exact .str
  | tup h => exact .tup (k.tups B _ _ h)
structure K5 (T : TL') (H : Hp) (C b c tp bt one : Addr) (wr : V) (p q : SerM.Po) : Prop where
  bag : Bag H b c
  tabs : LamX.Tabs T H
  tp : H tp = some (.lst (iv p))
  bt : H bt = some (.lst (iv q))
  v : ValU H C one p q
  wr : AnyX.Wrong H wr
theorem K5.same {T : TL'} {H H' : Hp} {C b c tp bt one : Addr} {wr : V} {p q : SerM.Po} (k : K5 T H C b c tp bt one wr p q) (s : Same H H') : K5 T H' C b c tp bt one wr p q :=
  ⟨k.bag.same s, k.tabs.ext s, s _ _ k.tp, s _ _ k.bt, k.v.same s, k.wr.same s⟩
def Pre4 (T : TL') (C scr : Addr) (σ : L2.St) (H : Hp) : Prop := ∃ (b c tp bt one : Addr) (wr : V) (p q : SerM.Po), K5 T H C b c tp bt one wr p q ∧ ∃ v2 v5 v6 v7 v8 v9 v12 v13 v14 : Option V, σ = [some (.ref scr), some (.ref b), v2, some (.ref tp), some (.ref bt), v5, v6, v7, v8, v9, some (.ref one), some wr, v12, v13, v14]
section
variable {C CI CN g ff U M' NL f scr c0 P0 : Addr} {oc kV doc pm cdw ct : Value} {od an : Option Addr} {osl : Array (Option Value)} {fdF : FuncData} {T : TL'} {A : Around} {outer : List Env} {s : Shared} {H0 : Hp} {E : XK} {J : L2.St → Hp → Prop}
theorem segF (L : LawD P w K mg base C CI CN g ff U M' NL oc kV doc pm cdw ct od an osl fdF) (TB : LamX.TabB base mg c0 P0) (hT : T = [(P0, (lawX P w K mg base f (.ref c0) A outer s H0 E).env.qual ++ "<lambda>")]) (hr : Room 10 (lawX P w K mg base f (.ref c0) A outer s H0 E).A) (next : SegP (lawX P w K mg base f (.ref c0) A outer s H0 E) 10 (Pre4 T C scr) (LInv T scr)) : SegP (lawX P w K mg base f (.ref c0) A outer s H0 E) 8 (Pre3 T scr) (LInv T scr) := by
  obtain ⟨t, ht, hq⟩ := next
  have C' := L.sc
  have Tx := L.T
  obtain ⟨_, _, DP⟩ := L.pull
  obtain ⟨_, _, DA⟩ := L.any
  obtain ⟨_, _, DPr⟩ := L.pair
  obtain ⟨_, _, DSo⟩ := L.so
  obtain ⟨_, _, DS⟩ := L.same
  obtain ⟨fI, fdI, d, dv, ⟨mkS, okS, mS, bS2, bS1, dS, rowS⟩⟩ := L.made
  refine ⟨_, (pss_cons (ps_set (i := 10) scLaw.nd rfl (by first | exact Or.inl rfl | exact Or.inr rfl) (pe_make mkS okS (hr.mono (by decide)) (by rfl) mS bS2 .nil pass0 (pa_cons (pv 3) (pa_cons (pv 4) pa_nil))))
 (pss_cons (ps_set (i := 11) scLaw.nd rfl (by first | exact Or.inl rfl | exact Or.inr rfl) (pe_call DA.ok (hr.mono (by decide)) (by rfl) DA.m DA.kp DA.b .nil pass0 (pa_cons (pv 1) (pa_cons (pe_lst (pa_cons (pe_un un_neg pe_int) (pa_cons pe_int (pa_cons pe_bl (pa_cons pe_non (pa_cons pe_str (pa_cons (pe_tup (pa_cons pe_int pa_nil)) pa_nil))))))) pa_nil))))
 ht)), fun D σ H pre post => ?_⟩
  obtain ⟨b, c, tp, bt, gl, ts, od, fv, p, q, sp, lw, k, hgl, hts, X, v2, v10, v11, v12, v13, v14, rfl⟩ := pre
  have hsz : 1000000 < sizeLine := by decide
  have Fd : Frac p (1 :: q) uni := ⟨Nat.le_trans k.fp.l (by decide), Nat.le_trans k.fq.l (by decide), fun i => Nat.le_trans (k.fp.c i) (by decide), fun i => Nat.le_trans (k.fq.c i) (by decide), by show (1 : Int) + 0 * _ = 1; omega⟩
  refine ⟨_, rfl, _, rfl, ?_⟩
  intro one sd hsa hsd sne
  refine ser_madeV (C := C) hsa hsd sne (RowV.lst k.tp) (RowV.lst k.bt) Fd fit1U.a Fd.pl Fd.ql Fd.pc Fd.qc Fd.q1 (fun _ => rfl) fun H1 s1 V0 => ?_
  have k := k.same s1
  refine ⟨_, rfl, _, rfl, (by show 1 ≤ sizeLine; decide), fun u1 hu1 => ?_⟩
  have nbu1 := k.bag.fresh hu1
  have s2 := same_upd hu1 (.tup [V.int 1])
  have gu1 : upd H1 u1 (.tup [V.int 1]) u1 = some (.tup [V.int 1]) := upd_same
  have k := k.same s2
  have V0 := V0.same s2
  generalize upd H1 u1 (.tup [V.int 1]) = H2 at s2 gu1 k V0 ⊢
  refine ⟨(by show 6 ≤ sizeLine; decide), fun m1 hm1 => ?_⟩
  have nbm1 := k.bag.fresh hm1
  have s3 := same_upd hm1 (.lst [V.int (-1), V.int 1001, V.bl true, V.non, V.str "1", V.ref u1])
  have gm1 : upd H2 m1 (.lst [V.int (-1), V.int 1001, V.bl true, V.non, V.str "1", V.ref u1]) m1 = some (.lst [V.int (-1), V.int 1001, V.bl true, V.non, V.str "1", V.ref u1]) := upd_same
  have k := k.same s3
  have V0 := V0.same s3
  have gu1 := s3 _ _ gu1
  generalize upd H2 m1 (.lst [V.int (-1), V.int 1001, V.bl true, V.non, V.str "1", V.ref u1]) = H3 at s3 gm1 k V0 gu1 ⊢
  refine ⟨b, c, .ref m1, [V.int (-1), V.int 1001, V.bl true, V.non, V.str "1", V.ref u1], rfl, k.bag, .inl ⟨m1, rfl, nbm1, SqL.of gm1⟩, (by show 0 < 6; decide), (by show 6 < 1073741824; decide), fun wr H4 hw B4 k4 => ?_⟩
  have W : AnyX.Wrong H3 wr := by
    simp only [List.mem_cons, List.not_mem_nil, or_false] at hw
    rcases hw with rfl | rfl | rfl | rfl | rfl | rfl
    · exact .int (by decide)
    · exact .int (by decide)
    · exact .bl
    · exact .non
    · exact .str
    · exact .tup gu1
  exact hq D _ _ ⟨b, c, tp, bt, one, wr, p, 1 :: q, ⟨B4, Tabs_kp k.bag k4 k.tabs, k4 _ _ k.tp (iv_bag k.bag k.tp), k4 _ _ k.bt (iv_bag k.bag k.bt), V0.kp k.bag k4, AnyX_kp W k.bag k4⟩, _, _, _, _, _, _, _, _, _, rfl⟩ post
end
end
end Un
namespace Un
open PySem L2 TL
section
variable {P : Program} {w : World} {K : PySem.W.Frag} {mg : Str → Option Value} {base : Heap}
def ToldE (H : Hp) (tf : Addr) (code : Str) (due : List V) : Prop := ∃ t1, H tf = some (.tup [.str code, .ref t1]) ∧ H t1 = some (.tup due)
theorem ToldE.ext {H H' : Hp} {tf : Addr} {code : Str} {due : List V} (h : ToldE H tf code due) (e : LamX.ExtN H H') : ToldE H' tf code due := by
  obtain ⟨t1, h1, h2⟩ := h
  exact ⟨t1, e _ _ h1 (fun _ z => nomatch z), e _ _ h2 (fun _ z => nomatch z)⟩
theorem ToldE.wr {H : Hp} {tf fo : Addr} {xs : List V} {code : Str} {due : List V} (h : ToldE H tf code due) (e : H fo = some (.lst xs)) (o : HO) : ToldE (upd H fo o) tf code due := by
  obtain ⟨t1, h1, h2⟩ := h
  exact ⟨t1, by rw [upd_ne (fun z => by rw [z, e] at h1; cases h1)]; exact h1, by rw [upd_ne (fun z => by rw [z, e] at h2; cases h2)]; exact h2⟩
theorem Val.ext {H H' : Hp} {C a : Addr} {P Q : SerM.Po} {z : Sz} (h : Val H C a P Q z) (e : LamX.ExtN H H') : Val H' C a P Q z := by
  obtain ⟨F, u, v, ⟨dx, x, y, zz, h1, h2, h3, h4⟩, R⟩ := h
  exact ⟨F, u, v, ⟨dx, x, y, zz, e _ _ h1 (fun _ z => nomatch z), e _ _ h2 (fun _ z => nomatch z), e _ _ h3 (fun _ z => nomatch z), h4⟩, R⟩
theorem AnyX_ext {H H' : Hp} {v : V} (h : AnyX.Wrong H v) (e : LamX.ExtN H H') : AnyX.Wrong H' v := by
  cases h with
  | int h => exact .int h
  | bl => exact .bl
  | non => exact .non
  | str => exact .str
  | tup h => exact .tup (e _ _ h fun _ z => nomatch z)
theorem K5.ext {T : TL'} {H H' : Hp} {C b c tp bt one : Addr} {wr : V} {p q : SerM.Po} (k : K5 T H C b c tp bt one wr p q) (e : LamX.ExtN H H') (t : LamX.Tabs T H') : K5 T H' C b c tp bt one wr p q :=
  ⟨Bag_ext k.bag e, t, e _ _ k.tp (fun _ z => nomatch z), e _ _ k.bt (fun _ z => nomatch z), k.v.ext e, AnyX_ext k.wr e⟩
def Pre5 (n : Nat) (T : TL') (C scr : Addr) (σ : L2.St) (H : Hp) : Prop := ∃ (b c tp bt one fl : Addr) (rs : List Addr) (wr : V) (p q : SerM.Po), K5 T H C b c tp bt one wr p q ∧ H fl = some (.lst (rs.map V.ref)) ∧ (b ≠ fl ∧ c ≠ fl) ∧ rs.length = n ∧ (∀ t ∈ rs, ToldE H t "InvalidNumber" [wr]) ∧ ∃ v2 v5 v6 v7 v8 v9 v13 v14 : Option V, σ = [some (.ref scr), some (.ref b), v2, some (.ref tp), some (.ref bt), v5, v6, v7, v8, v9, some (.ref one), some wr, some (.ref fl), v13, v14]
section
variable {C CI CN g ff U M' NL f scr c0 P0 : Addr} {oc kV doc pm cdw ct : Value} {od an : Option Addr} {osl : Array (Option Value)} {fdF : FuncData} {T : TL'} {A : Around} {outer : List Env} {s : Shared} {H0 : Hp} {E : XK} {J : L2.St → Hp → Prop}
theorem segG (L : LawD P w K mg base C CI CN g ff U M' NL oc kV doc pm cdw ct od an osl fdF) (TB : LamX.TabB base mg c0 P0) (hT : T = [(P0, (lawX P w K mg base f (.ref c0) A outer s H0 E).env.qual ++ "<lambda>")]) (hr : Room 10 (lawX P w K mg base f (.ref c0) A outer s H0 E).A) (next : SegP (lawX P w K mg base f (.ref c0) A outer s H0 E) 11 (Pre5 1 T C scr) (LInv T scr)) : SegP (lawX P w K mg base f (.ref c0) A outer s H0 E) 10 (Pre4 T C scr) (LInv T scr) := by
  obtain ⟨t, ht, hq⟩ := next
  have C' := L.sc
  have Tx := L.T
  obtain ⟨_, _, DP⟩ := L.pull
  obtain ⟨_, _, DA⟩ := L.any
  obtain ⟨_, _, DPr⟩ := L.pair
  obtain ⟨_, _, DSo⟩ := L.so
  obtain ⟨_, _, DS⟩ := L.same
  obtain ⟨_, _, MC⟩ := L.coefW
  refine ⟨_, (pss_cons (ps_set (i := 12) scLaw.nd rfl (by first | exact Or.inl rfl | exact Or.inr rfl) (pe_lst (pa_cons (LamX.pe_lamcall (X := lawX P w K mg base f (.ref c0) A outer s H0 E) (T := T) (TT := TWhy K [.ref U, .ref M', .ref NL]) (k := 8) (t := fun E => (tMeth C "coefficient" (spWr CN) [] E (tVar 10) (tCons (tVar 11) tNil))) (by rfl) L.mW L.kW L.lkW L.hcW L.bW scWhy rfl (Or.inl rfl) (why_gives (hr.mono (by decide)) L.GFd L.bF L.kF L.mF L.mU L.mM L.mN) TB rfl (by rw [hT]; exact List.mem_singleton.mpr rfl) (fun p hp _ => by rw [hT] at hp; rw [List.mem_singleton.mp hp]) (hr.mono (by decide)) (LamX.lamS_by (sc := defScope sLaw) (by decide +kernel)) rfl (fun _ _ _ _ _ => by rfl)
   (fun A outer s H E f c' hr2 => (pe_meth (pv 10) C'.cl MC.mt MC.ok (hr2.mono (by decide)) MC.b .nil (passes_call (takes_of rfl rfl rfl rfl) fun _ _ _ _ h => h) (pa_cons (pv 11) pa_nil)))) pa_nil)))
 ht), fun D σ H pre post => ?_⟩
  obtain ⟨b, c, tp, bt, one, wr, p, q, k, v2, v5, v6, v7, v8, v9, v12, v13, v14, rfl⟩ := pre
  have hsz : 1000000 < sizeLine := by decide
  refine ⟨k.tabs, fun H1 ext tabs1 => ?_⟩
  have k := k.ext ext tabs1
  obtain ⟨dx, _, _, _, _, _, R⟩ := k.v.rows
  refine ⟨_, rfl, one, dx, _, rfl, R.ha, rfl, _, rfl, one, wr, rfl, k.wr, fun d' H2 s2 hd hd' => ⟨"InvalidNumber", [wr], ⟨CN, d', _, rfl, L.erN.xf, L.erN.at_, rfl, hd', rfl, .cInvalidNumber rfl⟩, L.erN.ex, fun t2 t1 H3 s3 ht2 ht1 ht2' => ?_⟩⟩
  have k := k.same (s2.trans s3)
  have Z : ToldE H3 t2 "InvalidNumber" [wr] := ⟨t1, ht2', ht1⟩
  refine ⟨(by show 1 ≤ sizeLine; decide), fun fl hfl => ?_⟩
  have s4 := same_upd hfl (.lst [V.ref t2])
  have nb := k.bag.ne_new hfl
  exact hq D _ _ ⟨b, c, tp, bt, one, fl, [t2], wr, p, q, k.same s4, upd_same, nb, rfl, fun t ht => by rw [List.mem_singleton.mp ht]; exact Z.ext (LamX.ExtN.of s4), _, _, _, _, _, _, _, _, rfl⟩ post
end
end
end Un
namespace Un
open PySem L2 TL
section
variable {P : Program} {w : World} {K : PySem.W.Frag} {mg : Str → Option Value} {base : Heap}
theorem refs_iv4 {ss : List Addr} (h : ss ≠ []) (p : SerM.Po) : ss.map V.ref ≠ iv p := fun e => by
  cases ss with
  | nil => exact h rfl
  | cons x r => cases p with
    | nil => cases e
    | cons z zs => cases e
theorem Val.wr {H : Hp} {C a m : Addr} {P Q : SerM.Po} {z : Sz} {l : List V} (h : Val H C a P Q z) (hm : H m = some (.lst l)) (hl : ∀ p : SerM.Po, l ≠ iv p) (o : HO) : Val (upd H m o) C a P Q z := by
  obtain ⟨F, u, v, ⟨dx, x, y, zz, h1, h2, h3, h4⟩, R⟩ := h
  have na : a ≠ m := fun e => by rw [e, hm] at h1; cases h1
  have nz : ∀ {w : Addr} {p : SerM.Po}, H w = some (.lst (iv p)) → w ≠ m := fun hw e => by
    rw [e, hm] at hw
    injection hw with hw
    injection hw with hw
    exact hl _ hw
  exact ⟨F, u, v, ⟨dx, x, y, zz, by rw [upd_ne na]; exact h1, by rw [upd_ne (nz h2)]; exact h2, by rw [upd_ne (nz h3)]; exact h3, h4⟩, R⟩
theorem K5.put {T : TL'} {H : Hp} {C b c tp bt one fl : Addr} {wr : V} {p q : SerM.Po} {rs : List Addr} (k : K5 T H C b c tp bt one wr p q) (hf : H fl = some (.lst (rs.map V.ref))) (hr : rs ≠ []) (nb : b ≠ fl ∧ c ≠ fl) (xs : List V) : K5 T (upd H fl (.lst xs)) C b c tp bt one wr p q := by
  have nz : ∀ {w : Addr} {p : SerM.Po}, H w = some (.lst (iv p)) → w ≠ fl := fun hw e => by
    rw [e, hf] at hw
    injection hw with hw
    injection hw with hw
    exact refs_iv4 hr _ hw
  refine ⟨k.bag.wr nb _, Tabs_wr hf k.tabs _, by rw [upd_ne (nz k.tp)]; exact k.tp, by rw [upd_ne (nz k.bt)]; exact k.bt, Val.wr k.v hf (refs_iv4 hr) _, ?_⟩
  have := k.wr
  cases this with
  | int h => exact .int h
  | bl => exact .bl
  | non => exact .non
  | str => exact .str
  | tup h => exact .tup (by rw [upd_ne (fun z => by rw [z, hf] at h; cases h)]; exact h)
section
variable {C CI CN g ff U M' NL f scr c0 P0 : Addr} {oc kV doc pm cdw ct : Value} {od an : Option Addr} {osl : Array (Option Value)} {fdF : FuncData} {T : TL'} {A : Around} {outer : List Env} {s : Shared} {H0 : Hp} {E : XK} {J : L2.St → Hp → Prop}
theorem segG2 (L : LawD P w K mg base C CI CN g ff U M' NL oc kV doc pm cdw ct od an osl fdF) (TB : LamX.TabB base mg c0 P0) (hT : T = [(P0, (lawX P w K mg base f (.ref c0) A outer s H0 E).env.qual ++ "<lambda>")]) (hr : Room 10 (lawX P w K mg base f (.ref c0) A outer s H0 E).A) (next : SegP (lawX P w K mg base f (.ref c0) A outer s H0 E) 12 (Pre5 2 T C scr) (LInv T scr)) : SegP (lawX P w K mg base f (.ref c0) A outer s H0 E) 11 (Pre5 1 T C scr) (LInv T scr) := by
  obtain ⟨t, ht, hq⟩ := next
  have C' := L.sc
  have Tx := L.T
  obtain ⟨_, _, DP⟩ := L.pull
  obtain ⟨_, _, DA⟩ := L.any
  obtain ⟨_, _, DPr⟩ := L.pair
  obtain ⟨_, _, DSo⟩ := L.so
  obtain ⟨_, _, DS⟩ := L.same
  obtain ⟨_, _, MF⟩ := L.firstW
  refine ⟨_, (pss_cons (ps_expr (pe_bm PySem.F.plainAttrs_list PySem.F.slot_list_append PySem.F.type_list_append mt_append (pv 12) (pa_cons (LamX.pe_lamcall (X := lawX P w K mg base f (.ref c0) A outer s H0 E) (T := T) (TT := TWhy K [.ref U, .ref M', .ref NL]) (k := 8) (t := fun E => (tMeth C "first" (spWr CN) [] E (tVar 10) (tCons (tVar 11) tNil))) (by rfl) L.mW L.kW L.lkW L.hcW L.bW scWhy rfl (Or.inl rfl) (why_gives (hr.mono (by decide)) L.GFd L.bF L.kF L.mF L.mU L.mM L.mN) TB rfl (by rw [hT]; exact List.mem_singleton.mpr rfl) (fun p hp _ => by rw [hT] at hp; rw [List.mem_singleton.mp hp]) (hr.mono (by decide)) (LamX.lamS_by (sc := defScope sLaw) (by decide +kernel)) rfl (fun _ _ _ _ _ => by rfl)
   (fun A outer s H E f c' hr2 => (pe_meth (pv 10) C'.cl MF.mt MF.ok (hr2.mono (by decide)) MF.b .nil (passes_call (takes_of rfl rfl rfl rfl) fun _ _ _ _ h => h) (pa_cons (pv 11) pa_nil)))) pa_nil)))
 ht), fun D σ H pre post => ?_⟩
  obtain ⟨b, c, tp, bt, one, fl, rs, wr, p, q, k, hfl, nb, hrs, Z, v2, v5, v6, v7, v8, v9, v13, v14, rfl⟩ := pre
  have hsz : 1000000 < sizeLine := by decide
  have rn : rs ≠ [] := fun z => by rw [z] at hrs; cases hrs
  refine ⟨_, rfl, .inl ⟨rfl, _, SqL.of hfl⟩, ?_⟩
  refine ⟨k.tabs, fun H1 ext tabs1 => ?_⟩
  have k := k.ext ext tabs1
  have hfl := ext _ _ hfl (fun _ z => nomatch z)
  have Z : ∀ t ∈ rs, ToldE H1 t "InvalidNumber" [wr] := fun t ht => (Z t ht).ext ext
  obtain ⟨dx, _, _, _, _, _, R⟩ := k.v.rows
  refine ⟨_, rfl, one, dx, _, rfl, R.ha, rfl, _, rfl, one, wr, rfl, k.wr, fun d' H2 s2 hd hd' => ⟨"InvalidNumber", [wr], ⟨CN, d', _, rfl, L.erN.xf, L.erN.at_, rfl, hd', rfl, .cInvalidNumber rfl⟩, L.erN.ex, fun t2 t1 H3 s3 ht2 ht1 ht2' => ?_⟩⟩
  have s23 := s2.trans s3
  have k := k.same s23
  have hfl := s23 _ _ hfl
  have Y : ToldE H3 t2 "InvalidNumber" [wr] := ⟨t1, ht2', ht1⟩
  refine ⟨fl, _, _, rfl, rfl, hfl, (by rw [List.length_map]; omega), ?_⟩
  exact hq D _ _ ⟨b, c, tp, bt, one, fl, rs ++ [t2], wr, p, q, k.put hfl rn nb _, by rw [upd_same, List.map_append]; rfl, nb, by rw [List.length_append, hrs]; rfl, fun t ht => by
    rcases List.mem_append.mp ht with ht | ht
    · exact ((Z t ht).ext (LamX.ExtN.of s23)).wr hfl _
    · rw [List.mem_singleton.mp ht]; exact Y.wr hfl _, _, _, _, _, _, _, _, _, rfl⟩ post
end
end
end Un
namespace Un
open PySem L2 TL
section
variable {P : Program} {w : World} {K : PySem.W.Frag} {mg : Str → Option Value} {base : Heap}
section
variable {C CI CN g ff U M' NL f scr c0 P0 : Addr} {oc kV doc pm cdw ct : Value} {od an : Option Addr} {osl : Array (Option Value)} {fdF : FuncData} {T : TL'} {A : Around} {outer : List Env} {s : Shared} {H0 : Hp} {E : XK} {J : L2.St → Hp → Prop}
theorem segG3 (L : LawD P w K mg base C CI CN g ff U M' NL oc kV doc pm cdw ct od an osl fdF) (TB : LamX.TabB base mg c0 P0) (hT : T = [(P0, (lawX P w K mg base f (.ref c0) A outer s H0 E).env.qual ++ "<lambda>")]) (hr : Room 10 (lawX P w K mg base f (.ref c0) A outer s H0 E).A) (next : SegP (lawX P w K mg base f (.ref c0) A outer s H0 E) 13 (Pre5 3 T C scr) (LInv T scr)) : SegP (lawX P w K mg base f (.ref c0) A outer s H0 E) 12 (Pre5 2 T C scr) (LInv T scr) := by
  obtain ⟨t, ht, hq⟩ := next
  have C' := L.sc
  have Tx := L.T
  obtain ⟨_, _, DP⟩ := L.pull
  obtain ⟨_, _, DA⟩ := L.any
  obtain ⟨_, _, DPr⟩ := L.pair
  obtain ⟨_, _, DSo⟩ := L.so
  obtain ⟨_, _, DS⟩ := L.same
  obtain ⟨mcD, prD, gD, fdD, ggD, RD, SD, bD, kbD, okD, okDP⟩ := L.delay
  refine ⟨_, (pss_cons (ps_expr (pe_bm PySem.F.plainAttrs_list PySem.F.slot_list_append PySem.F.type_list_append mt_append (pv 12) (pa_cons (LamX.pe_lamcall (X := lawX P w K mg base f (.ref c0) A outer s H0 E) (T := T) (TT := TWhy K [.ref U, .ref M', .ref NL]) (k := 8) (t := fun E => StaX.tSM C (spWr1 CN) [] E _ (tCons (tVar 11) tNil)) (by rfl) L.mW L.kW L.lkW L.hcW L.bW scWhy rfl (Or.inl rfl) (why_gives (hr.mono (by decide)) L.GFd L.bF L.kF L.mF L.mU L.mM L.mN) TB rfl (by rw [hT]; exact List.mem_singleton.mpr rfl) (fun p hp _ => by rw [hT] at hp; rw [List.mem_singleton.mp hp]) (hr.mono (by decide)) (LamX.lamS_by (sc := defScope sLaw) (by decide +kernel)) rfl (fun _ _ _ _ _ => by rfl)
   (fun A outer s H E f c' hr2 => (StaX.pe_smeth (C8.pe_gc (v := .ref C) (by rfl) ⟨_, L.mS, rfl⟩) RD SD okD (hr2.mono (by decide)) bD .nil (passes_call (takes_of rfl rfl rfl rfl) fun _ _ _ _ h => h) (pa_cons (pv 11) pa_nil)))) pa_nil)))
 ht), fun D σ H pre post => ?_⟩
  obtain ⟨b, c, tp, bt, one, fl, rs, wr, p, q, k, hfl, nb, hrs, Z, v2, v5, v6, v7, v8, v9, v13, v14, rfl⟩ := pre
  have hsz : 1000000 < sizeLine := by decide
  have rn : rs ≠ [] := fun z => by rw [z] at hrs; cases hrs
  refine ⟨_, rfl, .inl ⟨rfl, _, SqL.of hfl⟩, ?_⟩
  refine ⟨k.tabs, fun H1 ext tabs1 => ?_⟩
  have k := k.ext ext tabs1
  have hfl := ext _ _ hfl (fun _ z => nomatch z)
  have Z : ∀ t ∈ rs, ToldE H1 t "InvalidNumber" [wr] := fun t ht => (Z t ht).ext ext
  obtain ⟨dx, _, _, _, _, _, R⟩ := k.v.rows
  refine ⟨rfl, _, rfl, wr, rfl, k.wr, fun d' H2 s2 hd hd' => ⟨"InvalidNumber", [wr], ⟨CN, d', _, rfl, L.erN.xf, L.erN.at_, rfl, hd', rfl, .cInvalidNumber rfl⟩, L.erN.ex, fun t2 t1 H3 s3 ht2 ht1 ht2' => ?_⟩⟩
  have s23 := s2.trans s3
  have k := k.same s23
  have hfl := s23 _ _ hfl
  have Y : ToldE H3 t2 "InvalidNumber" [wr] := ⟨t1, ht2', ht1⟩
  refine ⟨fl, _, _, rfl, rfl, hfl, (by rw [List.length_map]; omega), ?_⟩
  exact hq D _ _ ⟨b, c, tp, bt, one, fl, rs ++ [t2], wr, p, q, k.put hfl rn nb _, by rw [upd_same, List.map_append]; rfl, nb, by rw [List.length_append, hrs]; rfl, fun t ht => by
    rcases List.mem_append.mp ht with ht | ht
    · exact ((Z t ht).ext (LamX.ExtN.of s23)).wr hfl _
    · rw [List.mem_singleton.mp ht]; exact Y.wr hfl _, _, _, _, _, _, _, _, _, rfl⟩ post
theorem segG4 (L : LawD P w K mg base C CI CN g ff U M' NL oc kV doc pm cdw ct od an osl fdF) (TB : LamX.TabB base mg c0 P0) (hT : T = [(P0, (lawX P w K mg base f (.ref c0) A outer s H0 E).env.qual ++ "<lambda>")]) (hr : Room 10 (lawX P w K mg base f (.ref c0) A outer s H0 E).A) (next : SegP (lawX P w K mg base f (.ref c0) A outer s H0 E) 14 (Pre5 4 T C scr) (LInv T scr)) : SegP (lawX P w K mg base f (.ref c0) A outer s H0 E) 13 (Pre5 3 T C scr) (LInv T scr) := by
  obtain ⟨t, ht, hq⟩ := next
  have C' := L.sc
  have Tx := L.T
  obtain ⟨_, _, DP⟩ := L.pull
  obtain ⟨_, _, DA⟩ := L.any
  obtain ⟨_, _, DPr⟩ := L.pair
  obtain ⟨_, _, DSo⟩ := L.so
  obtain ⟨_, _, DS⟩ := L.same
  obtain ⟨_, _, ML⟩ := L.lshW
  refine ⟨_, (pss_cons (ps_expr (pe_bm PySem.F.plainAttrs_list PySem.F.slot_list_append PySem.F.type_list_append mt_append (pv 12) (pa_cons (LamX.pe_lamcall (X := lawX P w K mg base f (.ref c0) A outer s H0 E) (T := T) (TT := TWhy K [.ref U, .ref M', .ref NL]) (k := 8) (t := fun E => (tOp (fun x y H Q => ∃ a dx fs, x = .ref a ∧ AnyX.Wrong H y ∧ H a = some (.ins C dx fs) ∧ spWr CN [.ref a, y] H Q E) (tVar 10) (tVar 11))) (by rfl) L.mW L.kW L.lkW L.hcW L.bW scWhy rfl (Or.inl rfl) (why_gives (hr.mono (by decide)) L.GFd L.bF L.kF L.mF L.mU L.mM L.mN) TB rfl (by rw [hT]; exact List.mem_singleton.mpr rfl) (fun p hp _ => by rw [hT] at hp; rw [List.mem_singleton.mp hp]) (hr.mono (by decide)) (LamX.lamS_by (sc := defScope sLaw) (by decide +kernel)) rfl (fun _ _ _ _ _ => by rfl)
   (fun A outer s H E f c' hr2 => (pe_op (AnyX.op_binA (op := .LShift) ML.mt ML.ok ML.b L.oal (hr2.mono (by decide)) (passes_call (takes_of rfl rfl rfl rfl) fun _ _ _ _ h => h)) (pv 10) (pv 11)))) pa_nil)))
 ht), fun D σ H pre post => ?_⟩
  obtain ⟨b, c, tp, bt, one, fl, rs, wr, p, q, k, hfl, nb, hrs, Z, v2, v5, v6, v7, v8, v9, v13, v14, rfl⟩ := pre
  have hsz : 1000000 < sizeLine := by decide
  have rn : rs ≠ [] := fun z => by rw [z] at hrs; cases hrs
  refine ⟨_, rfl, .inl ⟨rfl, _, SqL.of hfl⟩, ?_⟩
  refine ⟨k.tabs, fun H1 ext tabs1 => ?_⟩
  have k := k.ext ext tabs1
  have hfl := ext _ _ hfl (fun _ z => nomatch z)
  have Z : ∀ t ∈ rs, ToldE H1 t "InvalidNumber" [wr] := fun t ht => (Z t ht).ext ext
  obtain ⟨dx, _, _, _, _, _, R⟩ := k.v.rows
  refine ⟨_, rfl, _, rfl, one, dx, _, rfl, k.wr, R.ha, one, wr, rfl, k.wr, fun d' H2 s2 hd hd' => ⟨"InvalidNumber", [wr], ⟨CN, d', _, rfl, L.erN.xf, L.erN.at_, rfl, hd', rfl, .cInvalidNumber rfl⟩, L.erN.ex, fun t2 t1 H3 s3 ht2 ht1 ht2' => ?_⟩⟩
  have s23 := s2.trans s3
  have k := k.same s23
  have hfl := s23 _ _ hfl
  have Y : ToldE H3 t2 "InvalidNumber" [wr] := ⟨t1, ht2', ht1⟩
  refine ⟨fl, _, _, rfl, rfl, hfl, (by rw [List.length_map]; omega), ?_⟩
  exact hq D _ _ ⟨b, c, tp, bt, one, fl, rs ++ [t2], wr, p, q, k.put hfl rn nb _, by rw [upd_same, List.map_append]; rfl, nb, by rw [List.length_append, hrs]; rfl, fun t ht => by
    rcases List.mem_append.mp ht with ht | ht
    · exact ((Z t ht).ext (LamX.ExtN.of s23)).wr hfl _
    · rw [List.mem_singleton.mp ht]; exact Y.wr hfl _, _, _, _, _, _, _, _, _, rfl⟩ post
theorem segG5 (L : LawD P w K mg base C CI CN g ff U M' NL oc kV doc pm cdw ct od an osl fdF) (TB : LamX.TabB base mg c0 P0) (hT : T = [(P0, (lawX P w K mg base f (.ref c0) A outer s H0 E).env.qual ++ "<lambda>")]) (hr : Room 10 (lawX P w K mg base f (.ref c0) A outer s H0 E).A) (next : SegP (lawX P w K mg base f (.ref c0) A outer s H0 E) 15 (Pre5 5 T C scr) (LInv T scr)) : SegP (lawX P w K mg base f (.ref c0) A outer s H0 E) 14 (Pre5 4 T C scr) (LInv T scr) := by
  obtain ⟨t, ht, hq⟩ := next
  have C' := L.sc
  have Tx := L.T
  obtain ⟨_, _, DP⟩ := L.pull
  obtain ⟨_, _, DA⟩ := L.any
  obtain ⟨_, _, DPr⟩ := L.pair
  obtain ⟨_, _, DSo⟩ := L.so
  obtain ⟨_, _, DS⟩ := L.same
  obtain ⟨_, _, MR⟩ := L.rshW
  refine ⟨_, (pss_cons (ps_expr (pe_bm PySem.F.plainAttrs_list PySem.F.slot_list_append PySem.F.type_list_append mt_append (pv 12) (pa_cons (LamX.pe_lamcall (X := lawX P w K mg base f (.ref c0) A outer s H0 E) (T := T) (TT := TWhy K [.ref U, .ref M', .ref NL]) (k := 8) (t := fun E => (tOp (fun x y H Q => ∃ a dx fs, x = .ref a ∧ AnyX.Wrong H y ∧ H a = some (.ins C dx fs) ∧ spWr CN [.ref a, y] H Q E) (tVar 10) (tVar 11))) (by rfl) L.mW L.kW L.lkW L.hcW L.bW scWhy rfl (Or.inl rfl) (why_gives (hr.mono (by decide)) L.GFd L.bF L.kF L.mF L.mU L.mM L.mN) TB rfl (by rw [hT]; exact List.mem_singleton.mpr rfl) (fun p hp _ => by rw [hT] at hp; rw [List.mem_singleton.mp hp]) (hr.mono (by decide)) (LamX.lamS_by (sc := defScope sLaw) (by decide +kernel)) rfl (fun _ _ _ _ _ => by rfl)
   (fun A outer s H E f c' hr2 => (pe_op (AnyX.op_binA (op := .RShift) MR.mt MR.ok MR.b L.oar (hr2.mono (by decide)) (passes_call (takes_of rfl rfl rfl rfl) fun _ _ _ _ h => h)) (pv 10) (pv 11)))) pa_nil)))
 ht), fun D σ H pre post => ?_⟩
  obtain ⟨b, c, tp, bt, one, fl, rs, wr, p, q, k, hfl, nb, hrs, Z, v2, v5, v6, v7, v8, v9, v13, v14, rfl⟩ := pre
  have hsz : 1000000 < sizeLine := by decide
  have rn : rs ≠ [] := fun z => by rw [z] at hrs; cases hrs
  refine ⟨_, rfl, .inl ⟨rfl, _, SqL.of hfl⟩, ?_⟩
  refine ⟨k.tabs, fun H1 ext tabs1 => ?_⟩
  have k := k.ext ext tabs1
  have hfl := ext _ _ hfl (fun _ z => nomatch z)
  have Z : ∀ t ∈ rs, ToldE H1 t "InvalidNumber" [wr] := fun t ht => (Z t ht).ext ext
  obtain ⟨dx, _, _, _, _, _, R⟩ := k.v.rows
  refine ⟨_, rfl, _, rfl, one, dx, _, rfl, k.wr, R.ha, one, wr, rfl, k.wr, fun d' H2 s2 hd hd' => ⟨"InvalidNumber", [wr], ⟨CN, d', _, rfl, L.erN.xf, L.erN.at_, rfl, hd', rfl, .cInvalidNumber rfl⟩, L.erN.ex, fun t2 t1 H3 s3 ht2 ht1 ht2' => ?_⟩⟩
  have s23 := s2.trans s3
  have k := k.same s23
  have hfl := s23 _ _ hfl
  have Y : ToldE H3 t2 "InvalidNumber" [wr] := ⟨t1, ht2', ht1⟩
  refine ⟨fl, _, _, rfl, rfl, hfl, (by rw [List.length_map]; omega), ?_⟩
  exact hq D _ _ ⟨b, c, tp, bt, one, fl, rs ++ [t2], wr, p, q, k.put hfl rn nb _, by rw [upd_same, List.map_append]; rfl, nb, by rw [List.length_append, hrs]; rfl, fun t ht => by
    rcases List.mem_append.mp ht with ht | ht
    · exact ((Z t ht).ext (LamX.ExtN.of s23)).wr hfl _
    · rw [List.mem_singleton.mp ht]; exact Y.wr hfl _, _, _, _, _, _, _, _, _, rfl⟩ post
end
end
end Un
namespace Un
open PySem L2 TL
section
variable {P : Program} {w : World} {K : PySem.W.Frag} {mg : Str → Option Value} {base : Heap}
theorem eqv_toldG {H : Hp} {tf td t1 t1' : Addr} {code : Str} {due : List V} (n : Nat) (h1 : H tf = some (.tup [.str code, .ref t1'])) (h2 : H t1' = some (.tup due)) (h3 : H td = some (.tup [.str code, .ref t1])) (h4 : H t1 = some (.tup due)) (hl : due.length ≤ 2) (lf : ∀ z ∈ due, Eqv H n z z) : Eqv H (n + 2) (.ref tf) (.ref td) := by
  refine .inr ⟨tf, td, [.str code, .ref t1'], [.str code, .ref t1], rfl, rfl, rfl, (by show 2 ≤ 100000; decide), .inr ⟨h1, h3⟩, fun i u v hu hv => ?_⟩
  match i, hu, hv with
  | 0, hu, hv =>
    cases hu
    cases hv
    exact Eqv.leaf (show Leaf (V.str code) from trivial) _
  | 1, hu, hv =>
    cases hu
    cases hv
    refine .inr ⟨t1', t1, due, due, rfl, rfl, rfl, by omega, .inr ⟨h2, h4⟩, fun i u v hu hv => ?_⟩
    rw [hu] at hv
    cases hv
    exact lf u (List.mem_of_getElem? hu)
theorem wr_eqv {H : Hp} {v : V} (h : AnyX.Wrong H v) (n : Nat) : Eqv H (n + 1) v v := by
  cases h with
  | int _ => exact Eqv.leaf (show Leaf (V.int _) from trivial) _
  | bl => exact Eqv.leaf (show Leaf (V.bl _) from trivial) _
  | non => exact Eqv.leaf (show Leaf V.non from trivial) _
  | str => exact Eqv.leaf (show Leaf (V.str _) from trivial) _
  | @tup a h =>
    refine .inr ⟨a, a, [V.int 1], [V.int 1], rfl, rfl, rfl, (by show 1 ≤ 100000; decide), .inr ⟨h, h⟩, fun i u v hu hv => ?_⟩
    rw [hu] at hv
    cases hv
    match i, hu with
    | 0, hu =>
      cases hu
      exact Eqv.leaf (show Leaf (V.int 1) from trivial) n
def Pre6 (T : TL') (C scr : Addr) (σ : L2.St) (H : Hp) : Prop := ∃ (b c tp bt one fl : Addr) (wr : V) (p q : SerM.Po), K5 T H C b c tp bt one wr p q ∧ ∃ v2 v5 v6 v7 v8 v9 v13 v14 : Option V, σ = [some (.ref scr), some (.ref b), v2, some (.ref tp), some (.ref bt), v5, v6, v7, v8, v9, some (.ref one), some wr, some (.ref fl), v13, v14]
theorem told_all {H : Hp} {rs : List Addr} {td t1 : Addr} {wr : V} (n : Nat) (Z : ∀ t ∈ rs, ToldE H t "InvalidNumber" [wr]) (h3 : H td = some (.tup [.str "InvalidNumber", .ref t1])) (h4 : H t1 = some (.tup [wr])) (W : AnyX.Wrong H wr) : EqL H (n + 3) (rs.map V.ref) (List.replicate rs.length (V.ref td)) := by
  induction rs with
  | nil => exact trivial
  | cons r rs ih =>
    obtain ⟨t2, z1, z2⟩ := Z r List.mem_cons_self
    exact ⟨eqv_toldG (n + 1) z1 z2 h3 h4 (by show 1 ≤ 2; decide) (fun z hz => by rw [List.mem_singleton.mp hz]; exact wr_eqv W n), ih fun t ht => Z t (List.mem_cons_of_mem _ ht)⟩
section
variable {C CI CN g ff U M' NL f scr c0 P0 : Addr} {oc kV doc pm cdw ct : Value} {od an : Option Addr} {osl : Array (Option Value)} {fdF : FuncData} {T : TL'} {A : Around} {outer : List Env} {s : Shared} {H0 : Hp} {E : XK} {J : L2.St → Hp → Prop}
theorem segI (L : LawD P w K mg base C CI CN g ff U M' NL oc kV doc pm cdw ct od an osl fdF) (TB : LamX.TabB base mg c0 P0) (hT : T = [(P0, (lawX P w K mg base f (.ref c0) A outer s H0 E).env.qual ++ "<lambda>")]) (hr : Room 10 (lawX P w K mg base f (.ref c0) A outer s H0 E).A) (next : SegP (lawX P w K mg base f (.ref c0) A outer s H0 E) 16 (Pre6 T C scr) (LInv T scr)) : SegP (lawX P w K mg base f (.ref c0) A outer s H0 E) 15 (Pre5 5 T C scr) (LInv T scr) := by
  obtain ⟨t, ht, hq⟩ := next
  have C' := L.sc
  have Tx := L.T
  obtain ⟨_, _, DP⟩ := L.pull
  obtain ⟨_, _, DA⟩ := L.any
  obtain ⟨_, _, DPr⟩ := L.pair
  obtain ⟨_, _, DSo⟩ := L.so
  obtain ⟨_, _, DS⟩ := L.same
  refine ⟨_, (pss_cons (ps_if (pt_not (pt_val (pe_call DS.ok (hr.mono (by decide)) (by rfl) DS.m DS.kp DS.b .nil pass0 (pa_cons (pv 12) (pa_cons (pe_op op_rep (pe_lst (pa_cons (pe_tup (pa_cons pe_str (pa_cons (pe_tup (pa_cons (pv 11) pa_nil)) pa_nil))) pa_nil)) pe_int) pa_nil)))))
 (pss_one (ps_ret pe_bl))
 pss_nil)
 ht), fun D σ H pre post => ?_⟩
  obtain ⟨b, c, tp, bt, one, fl, rs, wr, p, q, k, hfl, nb, hrs, Z, v2, v5, v6, v7, v8, v9, v13, v14, rfl⟩ := pre
  have hsz : 1000000 < sizeLine := by decide
  have Z0 : ∀ {H' : Hp}, Same H H' → ∀ t ∈ rs, ToldE H' t "InvalidNumber" [wr] := fun s t ht => (Z t ht).ext (LamX.ExtN.of s)
  have S0 : Same H H := Same.refl _
  refine ⟨_, rfl, _, rfl, (by show 1 ≤ sizeLine; decide), fun t1 ht1 => ?_⟩
  have s1 := same_upd ht1 (.tup [wr])
  have S1 := S0.trans s1
  have g1 : upd H t1 (.tup [wr]) t1 = some (.tup [wr]) := upd_same
  have k := k.same s1
  have hfl := s1 _ _ hfl
  generalize upd H t1 (.tup [wr]) = H1 at s1 g1 k hfl S1 ⊢
  refine ⟨(by show 2 ≤ sizeLine; decide), fun td htd => ?_⟩
  have s2 := same_upd htd (.tup [V.str "InvalidNumber", V.ref t1])
  have S2 := S1.trans s2
  have g2 : upd H1 td (.tup [V.str "InvalidNumber", V.ref t1]) td = some (.tup [V.str "InvalidNumber", V.ref t1]) := upd_same
  have k := k.same s2
  have hfl := s2 _ _ hfl
  have g1 := s2 _ _ g1
  generalize upd H1 td (.tup [V.str "InvalidNumber", V.ref t1]) = H2 at s2 g2 k hfl g1 S2 ⊢
  refine ⟨(by show 1 ≤ sizeLine; decide), fun l1 hl1 => ?_⟩
  have s3 := same_upd hl1 (.lst [V.ref td])
  have S3 := S2.trans s3
  have g3 : upd H2 l1 (.lst [V.ref td]) l1 = some (.lst [V.ref td]) := upd_same
  have k := k.same s3
  have hfl := s3 _ _ hfl
  have g1 := s3 _ _ g1
  have g2 := s3 _ _ g2
  generalize upd H2 l1 (.lst [V.ref td]) = H3 at s3 g3 k hfl g1 g2 S3 ⊢
  refine ⟨l1, _, _, rfl, rfl, g3, (by decide), (by decide), (by show 1 * 5 ≤ sizeLine; decide), fun l2 hl2 => ?_⟩
  rw [show (List.replicate (5 : Int).toNat [V.ref td]).flatten = List.replicate 5 (V.ref td) from rfl]
  have s4 := same_upd hl2 (.lst (List.replicate 5 (V.ref td)))
  have S4 := S3.trans s4
  have g4 : upd H3 l2 (.lst (List.replicate 5 (V.ref td))) l2 = some (.lst (List.replicate 5 (V.ref td))) := upd_same
  have k := k.same s4
  have hfl := s4 _ _ hfl
  have g1 := s4 _ _ g1
  have g2 := s4 _ _ g2
  generalize upd H3 l2 (.lst (List.replicate 5 (V.ref td))) = H4 at s4 g4 k hfl g1 g2 S4 ⊢
  have EL := told_all 1 (Z0 S4) g2 g1 k.wr
  rw [hrs] at EL
  refine ⟨.ref fl, .ref l2, rfl, eqv_lst hfl g4 EL (by rw [List.length_map, hrs]; decide), fun H5 s5 => ⟨_, rfl, iteF ?_⟩⟩
  exact hq D _ _ ⟨b, c, tp, bt, one, fl, wr, p, q, k.same s5, _, _, _, _, _, _, _, _, rfl⟩ post
end
end
end Un
namespace Un
open PySem L2 TL
section
variable {P : Program} {w : World} {K : PySem.W.Frag} {mg : Str → Option Value} {base : Heap}
section
variable {C CI CN g ff U M' NL f scr c0 P0 : Addr} {oc kV doc pm cdw ct : Value} {od an : Option Addr} {osl : Array (Option Value)} {fdF : FuncData} {T : TL'} {A : Around} {outer : List Env} {s : Shared} {H0 : Hp} {E : XK} {J : L2.St → Hp → Prop}
theorem segH (L : LawD P w K mg base C CI CN g ff U M' NL oc kV doc pm cdw ct od an osl fdF) (TB : LamX.TabB base mg c0 P0) (hT : T = [(P0, (lawX P w K mg base f (.ref c0) A outer s H0 E).env.qual ++ "<lambda>")]) (hr : Room 10 (lawX P w K mg base f (.ref c0) A outer s H0 E).A) : SegP (lawX P w K mg base f (.ref c0) A outer s H0 E) 16 (Pre6 T C scr) (LInv T scr) := by
  have C' := L.sc
  have Tx := L.T
  obtain ⟨_, _, DP⟩ := L.pull
  obtain ⟨_, _, DA⟩ := L.any
  obtain ⟨_, _, DPr⟩ := L.pair
  obtain ⟨_, _, DSo⟩ := L.so
  obtain ⟨_, _, DS⟩ := L.same
  obtain ⟨_, _, MF⟩ := L.first
  refine ⟨_, (pss_one (ps_if (PW.pt (pw_or (pt_not (pt_val (pe_call DSo.ok (hr.mono (by decide)) (by rfl) DSo.m DSo.kp DSo.b .nil pass0 (pa_cons (pv 10) (pa_cons (pe_tup (pa_cons (pv 3) (pa_cons (pv 4) pa_nil))) pa_nil))))) (pw_or1 (pt_not (pt_val (pe_call DS.ok (hr.mono (by decide)) (by rfl) DS.m DS.kp DS.b .nil pass0 (pa_cons (LamX.pe_lamcall (X := lawX P w K mg base f (.ref c0) A outer s H0 E) (T := T) (TT := TWhy K [.ref U, .ref M', .ref NL]) (k := 8) (t := fun E => (tMeth C "first" (spFirst C) [] E0 (tVar 10) (tCons (tC (.int 0)) tNil))) (by rfl) L.mW L.kW L.lkW L.hcW L.bW scWhy rfl (Or.inl rfl) (why_gives (hr.mono (by decide)) L.GFd L.bF L.kF L.mF L.mU L.mM L.mN) TB rfl (by rw [hT]; exact List.mem_singleton.mpr rfl) (fun p hp _ => by rw [hT] at hp; rw [List.mem_singleton.mp hp]) (hr.mono (by decide)) (LamX.lamS_by (sc := defScope sLaw) (by decide +kernel)) rfl (fun _ _ _ _ _ => by rfl)
   (fun A outer s H E f c' hr2 => (pe_meth (pv 10) C'.cl MF.mt MF.ok (hr2.mono (by decide)) MF.b .nil pass0 (pa_cons pe_int pa_nil)))) (pa_cons (pe_tup (pa_cons pe_str (pa_cons (pe_lst pa_nil) pa_nil))) pa_nil))))))))
 (pss_one (ps_ret pe_bl))
 pss_nil)), fun D σ H pre post => ?_⟩
  obtain ⟨b, c, tp, bt, one, fl, wr, p, q, k, v2, v5, v6, v7, v8, v9, v13, v14, rfl⟩ := pre
  have hsz : 1000000 < sizeLine := by decide
  refine ⟨_, rfl, _, rfl, _, rfl, (by show 2 ≤ sizeLine; decide), fun t1 ht1 => ?_⟩
  have s1 := same_upd ht1 (.tup [V.ref tp, V.ref bt])
  have g1 : upd H t1 (.tup [V.ref tp, V.ref bt]) t1 = some (.tup [V.ref tp, V.ref bt]) := upd_same
  have k := k.same s1
  generalize upd H t1 (.tup [V.ref tp, V.ref bt]) = H1 at s1 g1 k ⊢
  obtain ⟨u, w', S, I⟩ := k.v.so
  refine ⟨one, t1, tp, bt, u, w', p, q, 21, 96, rfl, S, SqT.of g1, SqL.of k.tp, SqL.of k.bt, I, fun H2 s2 => ⟨_, rfl, ?_⟩⟩
  have k := k.same s2
  refine iteF ?_
  refine ⟨k.tabs, fun H3 ext tabs3 => ?_⟩
  have k := k.ext ext tabs3
  obtain ⟨dx, x1, y1, o1, u1, v1, R⟩ := k.v.rows
  have vl : 1 ≤ v1.length := Nat.pos_of_ne_zero fun z => by
    have e := R.red.v1
    rw [List.eq_nil_of_length_eq_zero z] at e
    exact absurd e (by decide)
  refine ⟨_, rfl, one, dx, _, rfl, R.ha, rfl, one, u1, v1, 0, 96, rfl, ⟨dx, x1, y1, o1, R.ha, R.hx, R.hy, R.ord⟩, vl, Nat.le_trans R.ul (by decide), Nat.le_trans R.vl (by decide), by decide, fun i => Nat.lt_of_le_of_lt (R.uc i) (by decide +kernel), fun i => Nat.lt_of_le_of_lt (R.vc i) (by decide +kernel), by decide, fun m H4 s4 hm hm' => ?_⟩
  have k := k.same s4
  have em : iv (SerM.qt u1 v1 0) = [] := rfl
  rw [em] at hm'
  refine ⟨(by show 2 ≤ sizeLine; decide), fun t2 ht2 => ?_⟩
  have s5 := same_upd ht2 (.tup [V.str "", V.ref m])
  have g2 : upd H4 t2 (.tup [V.str "", V.ref m]) t2 = some (.tup [V.str "", V.ref m]) := upd_same
  have k := k.same s5
  have hm' := s5 _ _ hm'
  generalize upd H4 t2 (.tup [V.str "", V.ref m]) = H5 at s5 g2 k hm' ⊢
  refine ⟨(by show 0 ≤ sizeLine; decide), fun l1 hl1 => ?_⟩
  have s6 := same_upd hl1 (.lst [])
  have g3 : upd H5 l1 (.lst []) l1 = some (.lst []) := upd_same
  have k := k.same s6
  have hm' := s6 _ _ hm'
  have g2 := s6 _ _ g2
  generalize upd H5 l1 (.lst []) = H6 at s6 g3 k hm' g2 ⊢
  refine ⟨(by show 2 ≤ sizeLine; decide), fun t3 ht3 => ?_⟩
  have s7 := same_upd ht3 (.tup [V.str "", V.ref l1])
  have g4 : upd H6 t3 (.tup [V.str "", V.ref l1]) t3 = some (.tup [V.str "", V.ref l1]) := upd_same
  have k := k.same s7
  have hm' := s7 _ _ hm'
  have g2 := s7 _ _ g2
  have g3 := s7 _ _ g3
  generalize upd H6 t3 (.tup [V.str "", V.ref l1]) = H7 at s7 g4 k hm' g2 g3 ⊢
  have EV : Eqv H7 5 (.ref t2) (.ref t3) := by
    refine .inr ⟨t2, t3, [V.str "", V.ref m], [V.str "", V.ref l1], rfl, rfl, rfl, (by show 2 ≤ 100000; decide), .inr ⟨g2, g4⟩, (EqL.at_ (xs := [V.str "", V.ref m]) (ys := [V.str "", V.ref l1]) ⟨Eqv.leaf (show Leaf (V.str "") from trivial) _, ?_, trivial⟩).2⟩
    exact eqv_lst hm' g3 trivial (by decide)
  refine ⟨.ref t2, .ref t3, rfl, EV, fun H8 s8 => ⟨_, rfl, ?_⟩⟩
  have k := k.same s8
  refine iteF ?_
  exact (post _ _ ⟨b, c, k.bag, k.tabs, _, _, _, _, _, _, _, _, _, _, _, _, _, rfl⟩).1
end
end
end Un
namespace Un
open PySem L2 TL
section
variable {P : Program} {w : World} {K : PySem.W.Frag} {mg : Str → Option Value} {base : Heap}
open XV
/-- a def that keeps two promises -/
theorem fn_or {CX : CXT} {k : Nat} {f : Addr} {fd : FuncData} {ps : List Str} {s1 s2 : Sp} (F : FnOk P w K mg base CX k f fd ps s1) (G : FnOk P w K mg base CX k f fd ps s2) : FnOk P w K mg base CX k f fd ps (fun vs H Q E => s1 vs H Q E ∨ s2 vs H Q E) :=
  ⟨fun vs H Q E h => h.elim (F.len vs H Q E) (G.len vs H Q E), fun A outer s H args us vs Q E hr he hb hv hs => hs.elim (F.run A outer s H args us vs Q E hr he hb hv) (G.run A outer s H args us vs Q E hr he hb hv)⟩
def spLawT (K : PySem.W.Frag) (P0 : Addr) : Sp := fun vs H Q _ => ∃ (a : Addr) (ns : List Int), vs = [.ref a] ∧ SqL K H a (ns.map V.int) ∧ ns.length ≤ 63 ∧ H P0 = some (.tbl #[]) ∧ ∀ H', Q (.bl true) H'
theorem ok_law {C CI CN g ff U M' NL f c0 P0 : Addr} {oc kV doc pm cdw ct : Value} {od an : Option Addr} {osl : Array (Option Value)} {fdF : FuncData} {oc1 kV1 doc1 pm1 ct1 : Value} {od1 an1 : Option Addr} {osl1 : Array (Option Value)}
    (lk : K.lookup f = some ⟨oc1, od1, .func (PySem.W.fnOf "law" "law" (defArgs sLaw) (defBody sLaw) (defScope sLaw) .none kV1 doc1 pm1 an1 (.ref c0) ct1), osl1⟩) (hcd : PySem.W.codeIn K (.ref c0) "law" = true) (L : LawD P w K mg base C CI CN g ff U M' NL oc kV doc pm cdw ct od an osl fdF) (TB : LamX.TabB base mg c0 P0) :
    FnOk P w K mg base CX0 11 f (PySem.W.fnOf "law" "law" (defArgs sLaw) (defBody sLaw) (defScope sLaw) .none kV1 doc1 pm1 an1 (.ref c0) ct1) ["_law_script"] (spLawT K P0) := by
  refine fn_of lk hcd scLaw (fun vs H Q E h => ?_) (fun A outer s H0 vs Q E hr h => ?_)
  · obtain ⟨a, ns, rfl, _⟩ := h
    rfl
  obtain ⟨scr, ns, rfl, R, hl, hP0, q⟩ := h
  have C' := L.sc
  have Tx := L.T
  have T' := L.T
  obtain ⟨_, _, DS⟩ := L.same
  obtain ⟨_, _, DBag⟩ := L.bag
  obtain ⟨fI, fdI, d, dv, ⟨mkS, okS, mS, bS2, bS1, dS, rowS⟩⟩ := L.madeP
  obtain ⟨_, _, MC⟩ := L.coef
  obtain ⟨_, _, MF⟩ := L.first
  obtain ⟨_, _, MLP⟩ := L.lshP
  obtain ⟨_, _, MRP⟩ := L.rshP
  obtain ⟨mcD, prD, gD, fdD, ggD, RD, SD, bD, kbD, okD, okDP⟩ := L.delay
  obtain ⟨T, hT⟩ : ∃ T : TL', T = [(P0, (lawX P w K mg base f (.ref c0) A outer s H0 E).env.qual ++ "<lambda>")] := ⟨_, rfl⟩
  have hr10 : Room 10 (lawX P w K mg base f (.ref c0) A outer s H0 E).A := hr.mono (by decide)
  obtain ⟨t, ht, hq⟩ : SegP (lawX P w K mg base f (.ref c0) A outer s H0 E) 0 (LInv T scr) (LInv T scr) := segA L TB hT hr10 (segB L TB hT hr10 (segC L TB hT hr10 (segD L TB hT hr10 (segE L TB hT hr10 (segF L TB hT hr10 (segG L TB hT hr10 (segG2 L TB hT hr10 (segG3 L TB hT hr10 (segG4 L TB hT hr10 (segG5 L TB hT hr10 (segI L TB hT hr10 (segH L TB hT hr10))))))))))))
  refine ⟨_, PSs.nox (pss_cons (ps_set (i := 1) scLaw.nd rfl (by first | exact Or.inl rfl | exact Or.inr rfl) (pe_call DBag.ok (hr.mono (by decide)) (by rfl) DBag.m DBag.kp DBag.b .nil pass0 (pa_cons (pv 0) pa_nil)))
 (pss_cons (ps_for PassesOwn.never rfl (pi_range1 (by rfl) Tx.range (pa_cons pe_int pa_nil)) (pg_name (i := 2) scLaw.nd rfl (by first | exact Or.inl rfl | exact Or.inr rfl)) ht)
 (pss_cons (ps_set (i := 13) scLaw.nd rfl (by first | exact Or.inl rfl | exact Or.inr rfl) (pe_make mkS okS (hr.mono (by decide)) (by rfl) mS bS1 dS pass0 (pa_cons (pe_lst (pa_cons pe_int (pa_cons pe_int pa_nil))) pa_nil)))
 (pss_cons (ps_set (i := 12) scLaw.nd rfl (by first | exact Or.inl rfl | exact Or.inr rfl) (pe_lst (pa_cons (pe_meth (pv 13) C'.cl MC.mt MC.ok (hr.mono (by decide)) MC.b .nil pass0 (pa_cons pe_int pa_nil)) (pa_cons (pe_callB call_len_seq (by rfl) Tx.len PySem.boot_len (pa_cons (pe_meth (pv 13) C'.cl MF.mt MF.ok (hr.mono (by decide)) MF.b .nil pass0 (pa_cons pe_int pa_nil)) pa_nil)) (pa_cons (pe_fld (StaX.pe_smethK (ks := ["d"]) (C8.pe_gc (v := .ref C) (by rfl) ⟨_, L.mS, rfl⟩) RD SD okDP (hr.mono (by decide)) kbD pass0 (pk_cons pe_int pk_nil)) rfl) (pa_cons (pe_fld (pe_op (BinO.op_bin (op := .LShift) MLP L.oal.k (hr.mono (by decide))) (pv 13) pe_int) rfl) (pa_cons (pe_fld (pe_op (BinO.op_bin (op := .RShift) MRP L.oar.k (hr.mono (by decide))) (pe_make mkS okS (hr.mono (by decide)) (by rfl) mS bS1 dS pass0 (pa_cons (pe_lst pa_nil) pa_nil)) pe_int) rfl) pa_nil)))))))
 (pss_one (ps_ret (pe_call DS.ok (hr.mono (by decide)) (by rfl) DS.m DS.kp DS.b .nil pass0 (pa_cons (pv 12) (pa_cons (pe_lst (pa_cons pe_int (pa_cons pe_int (pa_cons pe_int (pa_cons pe_int (pa_cons pe_non pa_nil)))))) pa_nil))))))))), ?_⟩
  refine ⟨_, rfl, scr, ns, rfl, R, hl, fun b c H1 s1 hb hc B => ?_⟩
  have t1 : LamX.Tabs T H1 := fun p hp => by
    rw [hT] at hp
    rw [List.mem_singleton.mp hp]
    exact LamX.TabS.nil (s1 _ _ hP0)
  refine ⟨4, rfl, by decide, by decide, ?_⟩
  refine for_it (walk_range (lo := 0)) (fun i σ H2 => LInv T scr σ H2) ⟨b, c, B, t1, none, none, none, none, none, none, none, none, none, none, none, none, none, rfl⟩ (fun _ _ _ _ _ => trivial) ?_ ?_
  · rintro i v σ H2 H3 hi ⟨b, c, B, tb, v2, v3, v4, v5, v6, v7, v8, v9, v10, v11, v12, v13, v14, rfl⟩ ⟨rfl, rfl⟩
    exact hq _ _ H3 ⟨b, c, B, tb, _, _, _, _, _, _, _, _, _, _, _, _, _, rfl⟩ fun _ _ z => ⟨z, z⟩
  rintro σ H2 ⟨b, c, B, tb, v2, v3, v4, v5, v6, v7, v8, v9, v10, v11, v12, v13, v14, rfl⟩
  have hsz : 1000000 < sizeLine := by decide
  refine ⟨(by show 2 ≤ sizeLine; decide), fun l1 hl1 => ?_⟩
  have s3 := same_upd hl1 (.lst [V.int 0, V.int 1])
  have g1 : upd H2 l1 (.lst [V.int 0, V.int 1]) l1 = some (.lst [V.int 0, V.int 1]) := upd_same
  generalize upd H2 l1 (.lst [V.int 0, V.int 1]) = H3 at s3 g1  ⊢
  intro sa sd hsa hsd sne
  refine ser_madeP (C := C) hsa hsd sne (RowV.lst (p := [0, 1]) g1) (rowS _) (by decide) fun H4 s4 V0 => ?_
  rw [show SerM.trim [0, 1] = [0, 1] from by decide +kernel] at V0
  have V1 := V0
  obtain ⟨dx, x1, y1, o1, ha, _⟩ := V1
  have c01 : ∀ i, (SerM.co [0, 1] i).natAbs < 2 ^ 2 := fun i => by
    match i with
    | 0 => decide
    | 1 => decide
    | i + 2 => rw [SerM.co_len (by show 2 ≤ i + 2; omega)]; decide
  have c1 : ∀ i, (SerM.co [1] i).natAbs < 2 ^ 2 := fun i => by
    match i with
    | 0 => decide
    | i + 1 => rw [SerM.co_len (by show 1 ≤ i + 1; omega)]; decide
  refine ⟨_, rfl, sa, dx, _, rfl, ha, rfl, sa, [0, 1], [1], 1000, 2, rfl, V0, by decide, by decide, by decide, by decide, c01, c1, by decide, fun H5 s5 => ?_⟩
  have e1 : SerM.co (SerM.qt [0, 1] [1] (1000 + 1)) 1000 = 0 := by
    rw [SerM.qt_ok (F := [1]) (q := [0, 1]) rfl (fun x => by rw [ev_one']; omega) (1000 + 1) 1000 (by decide)]
    exact SerM.co_len (by decide)
  rw [e1]
  have V0 := V0.same s5
  have ha := s5 _ _ ha
  refine ⟨_, rfl, sa, dx, _, rfl, ha, rfl, sa, [0, 1], [1], 1000, 2, rfl, V0, by decide, by decide, by decide, by decide, c01, c1, by decide, fun m H6 s6 hm hm' => ?_⟩
  have V0 := V0.same s6
  have ha := s6 _ _ ha
  refine ⟨m, _, rfl, .inl (SqL.of hm'), ?_⟩
  rw [show (iv (SerM.qt [0, 1] [1] 1000)).length = 1000 from by rw [List.length_map, SerM.qt_len]]
  refine ⟨rfl, rfl, 1000, rfl, by decide, fun dl H7 s7 Vd => ?_⟩
  rw [trim_zs] at Vd
  have V0 := V0.same s7
  have ha := s7 _ _ ha
  obtain ⟨dd, xx, yy, oo, hd1, hd2, hd3, hd4⟩ := Vd
  obtain rfl := ord_zs hd4
  refine ⟨dl, C, dd, _, _, rfl, hd1, C'.cl, C'.o, rfl, ?_⟩
  refine ⟨_, rfl, .inr ⟨sa, dx, _, 1000, rfl, rfl, ha, sa, [0, 1], 1000, rfl, V0, by decide, by decide, fun la H8 s8 Vl => ?_⟩⟩
  rw [show zs 1000 [0, 1] = zs 1001 [1] from zs_zs 1000 1 [1], trim_zs] at Vl
  obtain ⟨d2, xx2, yy2, oo2, he1, he2, he3, he4⟩ := Vl
  obtain rfl := ord_zs he4
  refine ⟨la, C, d2, _, _, rfl, he1, C'.cl, C'.o, rfl, ?_⟩
  refine ⟨(by show 0 ≤ sizeLine; decide), fun l2 hl2 => ?_⟩
  have s9 := same_upd hl2 (.lst [])
  have g2 : upd H8 l2 (.lst []) l2 = some (.lst []) := upd_same
  generalize upd H8 l2 (.lst []) = H9 at s9 g2  ⊢
  intro sb sd2 hsb hsd2 sne2
  refine ser_madeP (C := C) hsb hsd2 sne2 (RowV.lst (p := []) g2) (rowS _) (by decide) fun H10 s10 W0 => ?_
  rw [show SerM.trim [] = [] from rfl] at W0
  have W1 := W0
  obtain ⟨d3, x3, y3, o3, hb3, _⟩ := W1
  refine .inr ⟨sb, d3, _, 1000, rfl, rfl, hb3, sb, 1000, rfl, W0, by decide, fun ea H11 s11 Ve => ?_⟩
  obtain ⟨d4, x4, y4, o4, hf1, hf2, hf3, hf4⟩ := Ve
  obtain rfl : o4 = .non := by
    rcases hf4 with ⟨k, k1, _⟩ | ⟨_, h⟩
    · exact absurd k1 (Nat.not_lt_zero _)
    · exact h
  refine ⟨ea, C, d4, _, _, rfl, hf1, C'.cl, C'.o, rfl, ?_⟩
  refine ⟨(by show 5 ≤ sizeLine; decide), fun fl hfl => ?_⟩
  have s12 := same_upd hfl (.lst [V.int 0, V.int 1000, V.int 1000, V.int 1001, V.non])
  have g3 : upd H11 fl (.lst [V.int 0, V.int 1000, V.int 1000, V.int 1001, V.non]) fl = some (.lst [V.int 0, V.int 1000, V.int 1000, V.int 1001, V.non]) := upd_same
  generalize upd H11 fl (.lst [V.int 0, V.int 1000, V.int 1000, V.int 1001, V.non]) = H12 at s12 g3  ⊢
  refine ⟨_, rfl, (by show 5 ≤ sizeLine; decide), fun fd hfd => ?_⟩
  have s13 := same_upd hfd (.lst [V.int 0, V.int 1000, V.int 1000, V.int 1001, V.non])
  have g4 : upd H12 fd (.lst [V.int 0, V.int 1000, V.int 1000, V.int 1001, V.non]) fd = some (.lst [V.int 0, V.int 1000, V.int 1000, V.int 1001, V.non]) := upd_same
  have g3 := s13 _ _ g3
  generalize upd H12 fd (.lst [V.int 0, V.int 1000, V.int 1000, V.int 1001, V.non]) = H13 at s13 g4 g3 ⊢
  have lf : ∀ (i : Int), Eqv H13 4 (V.int i) (V.int i) := fun i => Eqv.leaf (show Leaf (V.int i) from trivial) 4
  exact ⟨.ref fl, .ref fd, rfl, eqv_lst g3 g4 ⟨lf _, lf _, lf _, lf _, Eqv.leaf (show Leaf V.non from trivial) 4, trivial⟩ (by decide), fun H14 _ => q H14⟩
end
end Un
namespace Un
open PySem L2 TL
section
variable {P : Program} {w : World} {K : PySem.W.Frag} {mg : Str → Option Value} {base : Heap}
theorem ok_isint2 {f : Addr} {fd : FuncData} (F : Fun K "is_integer" "is_integer" sIsInteger f fd) (misi : mg "isinstance" = none) (mint : mg "int" = none) (mbool : mg "bool" = none) : FnOk P w K mg base CX0 1 f fd ["value"] (spInteger K) := by
  refine F.ok scInteger (fun vs H Q E h => ?_) (fun cdv A outer s H vs Q E hr h => ?_)
  · obtain ⟨x, t, bi, bb, rfl, _⟩ := h
    rfl
  obtain ⟨x, t, bi, bb, rfl, ty, h1, h2, q⟩ := h
  refine ⟨_, pss_one (ps_ret (pe_and (pe_callB call_isi (by rfl) misi (by decide +kernel) (pa_cons (pv 0) (pa_cons (pe_bltn (v := .ty "int") (by rfl) mint (by decide +kernel) rfl) pa_nil)))
    (pe_one (pe_not (pe_callB call_isi (by rfl) misi (by decide +kernel) (pa_cons (pv 0) (pa_cons (pe_bltn (v := .ty "bool") (by rfl) mbool (by decide +kernel) rfl) pa_nil))))))), ?_⟩
  refine ⟨_, rfl, _, _, _, _, bi, rfl, .ty _, ty, kit_ty h1, _, rfl, ?_⟩
  cases bi with
  | true => exact iteT ⟨_, rfl, _, _, _, _, bb, rfl, .ty _, ty, kit_ty h2, _, rfl, q⟩
  | false => exact iteF q
end
section
/-! ### the classes as the top has made them -/
section
variable {C D N : Addr} {nm q : Str} {bs bm sub : List Value} {sn : List Str} {ab : Bool} {col : Option Bool} {dd : Option Addr} {k0 k1 k2 k3 k5 : Option Value} {nid : String}
theorem cl_cls (l : K.lookup C = some (excClassObj nm q C N bs bm true sn sub ab col dd k0 k1 k2 k3 k5 nid)) : PySem.W.clsIn K C = some { name := nm, bases := bs, mro := .ref C :: bm, ns := N, qualname := q, hasDict := true, slotNames := sn, subclasses := sub, abstract := ab, collection := col, hasDel := false } := by
  unfold PySem.W.clsIn; rw [l] <;> rfl
theorem cl_some (l : K.lookup C = some (excClassObj nm q C N bs bm true sn sub ab col dd k0 k1 k2 k3 k5 nid)) : (PySem.W.clsIn K C).isSome = true := by rw [cl_cls l]; rfl
theorem cl_dict (l : K.lookup C = some (excClassObj nm q C N bs bm true sn sub ab col dd k0 k1 k2 k3 k5 nid)) : PySem.W.hasDictIn K C = true := by unfold PySem.W.hasDictIn; rw [cl_cls l]; rfl
theorem cl_type (l : K.lookup C = some (excClassObj nm q C N bs bm true sn sub ab col dd k0 k1 k2 k3 k5 nid)) : PySem.W.typeIn K (.ref C) = some (.type "type") := by
  show (K.lookup C).map (·.cls) = _
  rw [l]; rfl
theorem cl_mro (l : K.lookup C = some (excClassObj nm q C N bs bm true sn sub ab col dd k0 k1 k2 k3 k5 nid)) (b : Value) : PySem.W.mroIn K C b = some ((Value.ref C :: bm).contains b) := by
  unfold PySem.W.mroIn; rw [cl_cls l]; rfl
end
/-- what a class of the errors is, as the top has written it -/
def CF (K : PySem.W.Frag) (C : Addr) (bm : List Value) (nid : String) (attrs : List Str) : Prop :=
  (∃ nm q N bs sn sub ab col dd k0 k1 k2 k3 k5, K.lookup C = some (excClassObj nm q C N bs bm true sn sub ab col dd k0 k1 k2 k3 k5 nid)) ∧ PySem.W.findIn K (.ref C) "__getattribute__" = some (some (.builtin "BaseException.__getattribute__")) ∧ PySem.W.findIn K (.ref C) "__getattr__" = some none ∧
  PySem.W.findIn K (.ref C) "__class__" = some (some (.builtin "object.__class__")) ∧ PySem.W.findIn K (.ref C) "code" = some none ∧ (∀ f ∈ attrs, PySem.W.findIn K (.ref C) f = some none)
def CX (K : PySem.W.Frag) (C f : Addr) (x qn : Str) (st : Stmt) (bm : List Value) (nid : String) (attrs : List Str) : Prop :=
  PySem.W.nsIn K mainGlobals x = some (some (.ref C)) ∧ CF K C bm nid attrs ∧ PySem.W.findIn K (.ref C) "__setattr__" = some (some (.builtin "object.__setattr__")) ∧ PySem.W.keepIn K (.ref C) = true ∧ PySem.W.findIn K (.ref C) "__init__" = some (some (.ref f)) ∧
  PySem.W.typeIn K (.ref f) = some (.type "function") ∧ ∃ fd, Fun K "__init__" qn st f fd
section
variable {C f N : Addr} {x qn nm q : Str} {st : Stmt} {bs bm sub : List Value} {sn : List Str} {ab : Bool} {col : Option Bool} {dd od an : Option Addr} {k0 k1 k2 k3 k5 : Option Value} {nid : String} {g h : Str} {oc kV doc pm cd ct : Value} {osl : Array (Option Value)}
theorem cx0 (a1 : PySem.W.nsIn K mainGlobals x = some (some (.ref C))) (a2 : K.lookup C = some (excClassObj nm q C N bs bm true sn sub ab col dd k0 k1 k2 k3 k5 nid)) (a3 : PySem.W.findIn K (.ref C) "__getattribute__" = some (some (.builtin "BaseException.__getattribute__"))) (a4 : PySem.W.findIn K (.ref C) "__getattr__" = some none)
    (a5 : PySem.W.findIn K (.ref C) "__class__" = some (some (.builtin "object.__class__"))) (a6 : PySem.W.findIn K (.ref C) "code" = some none) (a7 : PySem.W.findIn K (.ref C) "__setattr__" = some (some (.builtin "object.__setattr__"))) (a8 : PySem.W.keepIn K (.ref C) = true) (a9 : PySem.W.findIn K (.ref C) "__init__" = some (some (.ref f)))
    (b1 : PySem.W.typeIn K (.ref f) = some (.type "function")) (b2 : K.lookup f = some ⟨oc, od, .func (PySem.W.fnOf "__init__" qn (defArgs st) (defBody st) (defScope st) .none kV doc pm an cd ct), osl⟩) (b3 : PySem.W.codeIn K cd qn = true) (b4 : PySem.W.keepIn K (.ref f) = true) : CX K C f x qn st bm nid [] :=
  ⟨a1, ⟨⟨_, _, _, _, _, _, _, _, _, _, _, _, _, _, a2⟩, a3, a4, a5, a6, fun f hf => nomatch hf⟩, a7, a8, a9, b1, _, fun_mk (st := st) b2 b3 b4⟩
theorem cx1 (c : CX K C f x qn st bm nid []) (d1 : PySem.W.findIn K (.ref C) g = some none) : CX K C f x qn st bm nid [g] := by
  obtain ⟨a1, ⟨a2, a3, a4, a5, a6, _⟩, r⟩ := c
  exact ⟨a1, ⟨a2, a3, a4, a5, a6, fun f hf => by rw [List.mem_singleton.mp hf]; exact d1⟩, r⟩
theorem cx2 (c : CX K C f x qn st bm nid []) (d1 : PySem.W.findIn K (.ref C) g = some none) (d2 : PySem.W.findIn K (.ref C) h = some none) : CX K C f x qn st bm nid [g, h] := by
  obtain ⟨a1, ⟨a2, a3, a4, a5, a6, _⟩, r⟩ := c
  exact ⟨a1, ⟨a2, a3, a4, a5, a6, fun f hf => by
    rcases List.mem_cons.mp hf with e | hf
    · rw [e]; exact d1
    · rw [List.mem_singleton.mp hf]; exact d2⟩, r⟩
end
theorem CF.oex {C : Addr} {bm tail : List Value} {B nid iid : String} {attrs : List Str} (c : CF K C bm nid attrs) (FB : ExcBaseFacts B nid iid tail) (TO : XV.TailOk tail) (hb : XV.refsT tail bm = true) (hbe : bm.contains (.type "BaseException") = true)
    (sa : PySem.W.findIn K (.ref C) "__setattr__" = some (some (.builtin "object.__setattr__"))) (kC : PySem.W.keepIn K (.ref C) = true) : OexG K C := by
  obtain ⟨⟨nm, q, N, bs, sn, sub, ab, col, dd, k0, k1, k2, k3, k5, l⟩, _⟩ := c
  refine ⟨⟨B, nid, iid, tail, nm, q, N, bs, bm, sn, sub, ab, col, dd, k0, k1, k2, k3, k5, FB, TO, l, hb⟩, sa, ?_, cl_type l, kC⟩
  show PySem.W.mroIn K C _ = _
  rw [cl_mro l, List.contains_cons, hbe, Bool.or_true]
/-! ### what the top has written, the head -/
open XV
theorem all_mk {l : PySem.W.OpenLaw} {w : World} {K : PySem.W.Frag} {h : Heap} {mg : Str → Option Value} {fa : Addr} (X : K.In h) (G : h.Ns mainGlobals mg) (hfa : mg "law" = some (.ref fa))
    {f1 : Addr}
    {od1 an1 : Option Addr} {sl1 : Array (Option Value)} {oc1 kV1 dc1 pm1 cd1 ct1 : Value}
    {f2 : Addr}
    {od2 an2 : Option Addr} {sl2 : Array (Option Value)} {oc2 kV2 dc2 pm2 cd2 ct2 : Value}
    {f3 : Addr}
    {od3 an3 : Option Addr} {sl3 : Array (Option Value)} {oc3 kV3 dc3 pm3 cd3 ct3 : Value}
    {f4 : Addr}
    {od4 an4 : Option Addr} {sl4 : Array (Option Value)} {oc4 kV4 dc4 pm4 cd4 ct4 : Value}
    {f5 : Addr}
    {od5 an5 : Option Addr} {sl5 : Array (Option Value)} {oc5 kV5 dc5 pm5 cd5 ct5 : Value}
    {f6 : Addr}
    {od6 an6 : Option Addr} {sl6 : Array (Option Value)} {oc6 kV6 dc6 pm6 cd6 ct6 : Value}
    {f7 : Addr}
    {od7 an7 : Option Addr} {sl7 : Array (Option Value)} {oc7 kV7 dc7 pm7 cd7 ct7 : Value}
    {f8 : Addr}
    {od8 an8 : Option Addr} {sl8 : Array (Option Value)} {oc8 kV8 dc8 pm8 cd8 ct8 : Value}
    {f9 : Addr}
    {od9 an9 : Option Addr} {sl9 : Array (Option Value)} {oc9 kV9 dc9 pm9 cd9 ct9 : Value}
    {f10 : Addr}
    {od10 an10 : Option Addr} {sl10 : Array (Option Value)} {oc10 kV10 dc10 pm10 cd10 ct10 : Value}
    {f11 : Addr}
    {od11 an11 : Option Addr} {sl11 : Array (Option Value)} {oc11 kV11 dc11 pm11 cd11 ct11 : Value}
    {f12 : Addr}
    {od12 an12 : Option Addr} {sl12 : Array (Option Value)} {oc12 kV12 dc12 pm12 cd12 ct12 : Value}
    {f13 : Addr}
    {od13 an13 : Option Addr} {sl13 : Array (Option Value)} {oc13 kV13 dc13 pm13 cd13 ct13 : Value}
    {f14 : Addr}
    {od14 an14 : Option Addr} {sl14 : Array (Option Value)} {oc14 kV14 dc14 pm14 cd14 ct14 : Value}
    {f15 : Addr}
    {od15 an15 : Option Addr} {sl15 : Array (Option Value)} {oc15 kV15 dc15 pm15 cd15 ct15 : Value}
    {f16 : Addr}
    {od16 an16 : Option Addr} {sl16 : Array (Option Value)} {oc16 kV16 dc16 pm16 cd16 ct16 : Value}
    {f17 : Addr}
    {od17 an17 : Option Addr} {sl17 : Array (Option Value)} {oc17 kV17 dc17 pm17 cd17 ct17 : Value}
    {f18 : Addr}
    {od18 an18 : Option Addr} {sl18 : Array (Option Value)} {oc18 kV18 dc18 pm18 cd18 ct18 : Value}
    {f19 : Addr}
    {od19 an19 : Option Addr} {sl19 : Array (Option Value)} {oc19 kV19 dc19 pm19 cd19 ct19 : Value}
    {f20 : Addr}
    {od20 an20 : Option Addr} {sl20 : Array (Option Value)} {oc20 kV20 dc20 pm20 cd20 ct20 : Value}
    {f21 : Addr}
    {od21 an21 : Option Addr} {sl21 : Array (Option Value)} {oc21 kV21 dc21 pm21 cd21 ct21 : Value}
    {f22 : Addr}
    {od22 an22 : Option Addr} {sl22 : Array (Option Value)} {oc22 kV22 dc22 pm22 cd22 ct22 : Value}
    {f23 : Addr}
    {od23 an23 : Option Addr} {sl23 : Array (Option Value)} {oc23 kV23 dc23 pm23 cd23 ct23 : Value}
    {f24 : Addr}
    {od24 an24 : Option Addr} {sl24 : Array (Option Value)} {oc24 kV24 dc24 pm24 cd24 ct24 : Value}
    {f25 : Addr}
    {od25 an25 : Option Addr} {sl25 : Array (Option Value)} {oc25 kV25 dc25 pm25 cd25 ct25 : Value}
    {f26 : Addr}
    {od26 an26 : Option Addr} {sl26 : Array (Option Value)} {oc26 kV26 dc26 pm26 cd26 ct26 : Value}
    {f27 : Addr}
    {od27 an27 : Option Addr} {sl27 : Array (Option Value)} {oc27 kV27 dc27 pm27 cd27 ct27 : Value}
    {f28 : Addr}
    {od28 an28 : Option Addr} {sl28 : Array (Option Value)} {oc28 kV28 dc28 pm28 cd28 ct28 : Value}
    {fl c0 P0 : Addr} {odl anl : Option Addr} {sll : Array (Option Value)} {ocl kVl dcl pml ctl : Value}
    {tk_SPARE_BITS : Tok}
    {tk_MOST_BEATS : Tok}
    {CS : Addr} {cdtCS : ClassData}
    {fI TI dT : Addr} {odI anI tdI tdD : Option Addr} {slI tsI tsD : Array (Option Value)} {ocI kVI dcI pmI cdI ctI tcI : Value} {tnI tnD : Nat} {tkD : Tok}
    {fS0 : Addr} {odS0 anS0 : Option Addr} {slS0 : Array (Option Value)} {ocS0 kVS0 dcS0 pmS0 cdS0 ctS0 : Value}
    {fS1 : Addr} {odS1 anS1 : Option Addr} {slS1 : Array (Option Value)} {ocS1 kVS1 dcS1 pmS1 cdS1 ctS1 : Value}
    {fS2 : Addr} {odS2 anS2 : Option Addr} {slS2 : Array (Option Value)} {ocS2 kVS2 dcS2 pmS2 cdS2 ctS2 : Value}
    {fS3 : Addr} {odS3 anS3 : Option Addr} {slS3 : Array (Option Value)} {ocS3 kVS3 dcS3 pmS3 cdS3 ctS3 : Value}
    {fS4 : Addr} {odS4 anS4 : Option Addr} {slS4 : Array (Option Value)} {ocS4 kVS4 dcS4 pmS4 cdS4 ctS4 : Value}
    {fS5 : Addr} {odS5 anS5 : Option Addr} {slS5 : Array (Option Value)} {ocS5 kVS5 dcS5 pmS5 cdS5 ctS5 : Value}
    {U MM NL eZ CZ eN CN : Addr}
    {fDl prD : Addr} {rstD : List Value} {odD anD : Option Addr} {slD : Array (Option Value)} {ocD kVD dcD pmD cdD ctD : Value}
    (a1 : PySem.W.nsIn K mainGlobals "is_integer" = some (some (.ref f1)))
    (l1 : K.lookup f1 = some ⟨oc1, od1, .func (PySem.W.fnOf "is_integer" "is_integer" (defArgs sIsInteger) (defBody sIsInteger) (defScope sIsInteger) .none kV1 dc1 pm1 an1 cd1 ct1), sl1⟩)
    (c1 : PySem.W.codeIn K cd1 "is_integer" = true)
    (k1 : PySem.W.keepIn K (.ref f1) = true)
    (a2 : PySem.W.nsIn K mainGlobals "is_number" = some (some (.ref f2)))
    (l2 : K.lookup f2 = some ⟨oc2, od2, .func (PySem.W.fnOf "is_number" "is_number" (defArgs sIsNumber) (defBody sIsNumber) (defScope sIsNumber) .none kV2 dc2 pm2 an2 cd2 ct2), sl2⟩)
    (c2 : PySem.W.codeIn K cd2 "is_number" = true)
    (k2 : PySem.W.keepIn K (.ref f2) = true)
    (a3 : PySem.W.nsIn K mainGlobals "trimmed" = some (some (.ref f3)))
    (l3 : K.lookup f3 = some ⟨oc3, od3, .func (PySem.W.fnOf "trimmed" "trimmed" (defArgs sTrimmed) (defBody sTrimmed) (defScope sTrimmed) .none kV3 dc3 pm3 an3 cd3 ct3), sl3⟩)
    (c3 : PySem.W.codeIn K cd3 "trimmed" = true)
    (k3 : PySem.W.keepIn K (.ref f3) = true)
    (a4 : PySem.W.nsIn K mainGlobals "order_of" = some (some (.ref f4)))
    (l4 : K.lookup f4 = some ⟨oc4, od4, .func (PySem.W.fnOf "order_of" "order_of" (defArgs sOrderOf) (defBody sOrderOf) (defScope sOrderOf) .none kV4 dc4 pm4 an4 cd4 ct4), sl4⟩)
    (c4 : PySem.W.codeIn K cd4 "order_of" = true)
    (k4 : PySem.W.keepIn K (.ref f4) = true)
    (a5 : PySem.W.nsIn K mainGlobals "quotient_of" = some (some (.ref f5)))
    (l5 : K.lookup f5 = some ⟨oc5, od5, .func (PySem.W.fnOf "quotient_of" "quotient_of" (defArgs sQuotientOf) (defBody sQuotientOf) (defScope sQuotientOf) .none kV5 dc5 pm5 an5 cd5 ct5), sl5⟩)
    (c5 : PySem.W.codeIn K cd5 "quotient_of" = true)
    (k5 : PySem.W.keepIn K (.ref f5) = true)
    (a6 : PySem.W.nsIn K mainGlobals "root_bits" = some (some (.ref f6)))
    (l6 : K.lookup f6 = some ⟨oc6, od6, .func (PySem.W.fnOf "root_bits" "root_bits" (defArgs sRootBits) (defBody sRootBits) (defScope sRootBits) .none kV6 dc6 pm6 an6 cd6 ct6), sl6⟩)
    (c6 : PySem.W.codeIn K cd6 "root_bits" = true)
    (k6 : PySem.W.keepIn K (.ref f6) = true)
    (a7 : PySem.W.nsIn K mainGlobals "value_at" = some (some (.ref f7)))
    (l7 : K.lookup f7 = some ⟨oc7, od7, .func (PySem.W.fnOf "value_at" "value_at" (defArgs sValueAt) (defBody sValueAt) (defScope sValueAt) .none kV7 dc7 pm7 an7 cd7 ct7), sl7⟩)
    (c7 : PySem.W.codeIn K cd7 "value_at" = true)
    (k7 : PySem.W.keepIn K (.ref f7) = true)
    (a8 : PySem.W.nsIn K mainGlobals "digits_of" = some (some (.ref f8)))
    (l8 : K.lookup f8 = some ⟨oc8, od8, .func (PySem.W.fnOf "digits_of" "digits_of" (defArgs sDigitsOf) (defBody sDigitsOf) (defScope sDigitsOf) .none kV8 dc8 pm8 an8 cd8 ct8), sl8⟩)
    (c8 : PySem.W.codeIn K cd8 "digits_of" = true)
    (k8 : PySem.W.keepIn K (.ref f8) = true)
    (a9 : PySem.W.nsIn K mainGlobals "begun_with_one" = some (some (.ref f9)))
    (l9 : K.lookup f9 = some ⟨oc9, od9, .func (PySem.W.fnOf "begun_with_one" "begun_with_one" (defArgs sBegunWithOne) (defBody sBegunWithOne) (defScope sBegunWithOne) .none kV9 dc9 pm9 an9 cd9 ct9), sl9⟩)
    (c9 : PySem.W.codeIn K cd9 "begun_with_one" = true)
    (k9 : PySem.W.keepIn K (.ref f9) = true)
    (a10 : PySem.W.nsIn K mainGlobals "cancelled" = some (some (.ref f10)))
    (l10 : K.lookup f10 = some ⟨oc10, od10, .func (PySem.W.fnOf "cancelled" "cancelled" (defArgs sCancelled) (defBody sCancelled) (defScope sCancelled) .none kV10 dc10 pm10 an10 cd10 ct10), sl10⟩)
    (c10 : PySem.W.codeIn K cd10 "cancelled" = true)
    (k10 : PySem.W.keepIn K (.ref f10) = true)
    (a11 : PySem.W.nsIn K mainGlobals "reduced" = some (some (.ref f11)))
    (l11 : K.lookup f11 = some ⟨oc11, od11, .func (PySem.W.fnOf "reduced" "reduced" (defArgs sReduced) (defBody sReduced) (defScope sReduced) .none kV11 dc11 pm11 an11 cd11 ct11), sl11⟩)
    (c11 : PySem.W.codeIn K cd11 "reduced" = true)
    (k11 : PySem.W.keepIn K (.ref f11) = true)
    (a12 : PySem.W.nsIn K mainGlobals "is_row" = some (some (.ref f12)))
    (l12 : K.lookup f12 = some ⟨oc12, od12, .func (PySem.W.fnOf "is_row" "is_row" (defArgs sIsRow) (defBody sIsRow) (defScope sIsRow) .none kV12 dc12 pm12 an12 cd12 ct12), sl12⟩)
    (c12 : PySem.W.codeIn K cd12 "is_row" = true)
    (k12 : PySem.W.keepIn K (.ref f12) = true)
    (a13 : PySem.W.nsIn K mainGlobals "delayed" = some (some (.ref f13)))
    (l13 : K.lookup f13 = some ⟨oc13, od13, .func (PySem.W.fnOf "delayed" "delayed" (defArgs sDelayed) (defBody sDelayed) (defScope sDelayed) .none kV13 dc13 pm13 an13 cd13 ct13), sl13⟩)
    (c13 : PySem.W.codeIn K cd13 "delayed" = true)
    (k13 : PySem.W.keepIn K (.ref f13) = true)
    (a14 : PySem.W.nsIn K mainGlobals "hastened" = some (some (.ref f14)))
    (l14 : K.lookup f14 = some ⟨oc14, od14, .func (PySem.W.fnOf "hastened" "hastened" (defArgs sHastened) (defBody sHastened) (defScope sHastened) .none kV14 dc14 pm14 an14 cd14 ct14), sl14⟩)
    (c14 : PySem.W.codeIn K cd14 "hastened" = true)
    (k14 : PySem.W.keepIn K (.ref f14) = true)
    (a15 : PySem.W.nsIn K mainGlobals "expanded" = some (some (.ref f15)))
    (l15 : K.lookup f15 = some ⟨oc15, od15, .func (PySem.W.fnOf "expanded" "expanded" (defArgs sExpanded) (defBody sExpanded) (defScope sExpanded) .none kV15 dc15 pm15 an15 cd15 ct15), sl15⟩)
    (c15 : PySem.W.codeIn K cd15 "expanded" = true)
    (k15 : PySem.W.keepIn K (.ref f15) = true)
    (a16 : PySem.W.nsIn K mainGlobals "_law_bag" = some (some (.ref f16)))
    (l16 : K.lookup f16 = some ⟨oc16, od16, .func (PySem.W.fnOf "_law_bag" "_law_bag" (defArgs sBag) (defBody sBag) (defScope sBag) .none kV16 dc16 pm16 an16 cd16 ct16), sl16⟩)
    (c16 : PySem.W.codeIn K cd16 "_law_bag" = true)
    (k16 : PySem.W.keepIn K (.ref f16) = true)
    (a17 : PySem.W.nsIn K mainGlobals "_law_pull" = some (some (.ref f17)))
    (l17 : K.lookup f17 = some ⟨oc17, od17, .func (PySem.W.fnOf "_law_pull" "_law_pull" (defArgs sPull) (defBody sPull) (defScope sPull) .none kV17 dc17 pm17 an17 cd17 ct17), sl17⟩)
    (c17 : PySem.W.codeIn K cd17 "_law_pull" = true)
    (k17 : PySem.W.keepIn K (.ref f17) = true)
    (a18 : PySem.W.nsIn K mainGlobals "_law_any" = some (some (.ref f18)))
    (l18 : K.lookup f18 = some ⟨oc18, od18, .func (PySem.W.fnOf "_law_any" "_law_any" (defArgs sAny) (defBody sAny) (defScope sAny) .none kV18 dc18 pm18 an18 cd18 ct18), sl18⟩)
    (c18 : PySem.W.codeIn K cd18 "_law_any" = true)
    (k18 : PySem.W.keepIn K (.ref f18) = true)
    (a19 : PySem.W.nsIn K mainGlobals "_law_same" = some (some (.ref f19)))
    (l19 : K.lookup f19 = some ⟨oc19, od19, .func (PySem.W.fnOf "_law_same" "_law_same" (defArgs sSame) (defBody sSame) (defScope sSame) .none kV19 dc19 pm19 an19 cd19 ct19), sl19⟩)
    (c19 : PySem.W.codeIn K cd19 "_law_same" = true)
    (k19 : PySem.W.keepIn K (.ref f19) = true)
    (a20 : PySem.W.nsIn K mainGlobals "_law_why" = some (some (.ref f20)))
    (l20 : K.lookup f20 = some ⟨oc20, od20, .func (PySem.W.fnOf "_law_why" "_law_why" (defArgs sWhy) (defBody sWhy) (defScope sWhy) .none kV20 dc20 pm20 an20 cd20 ct20), sl20⟩)
    (c20 : PySem.W.codeIn K cd20 "_law_why" = true)
    (k20 : PySem.W.keepIn K (.ref f20) = true)
    (a21 : PySem.W.nsIn K mainGlobals "_law_field" = some (some (.ref f21)))
    (l21 : K.lookup f21 = some ⟨oc21, od21, .func (PySem.W.fnOf "_law_field" "_law_field" (defArgs sField) (defBody sField) (defScope sField) .none kV21 dc21 pm21 an21 cd21 ct21), sl21⟩)
    (c21 : PySem.W.codeIn K cd21 "_law_field" = true)
    (k21 : PySem.W.keepIn K (.ref f21) = true)
    (a22 : PySem.W.nsIn K mainGlobals "_law_trim" = some (some (.ref f22)))
    (l22 : K.lookup f22 = some ⟨oc22, od22, .func (PySem.W.fnOf "_law_trim" "_law_trim" (defArgs sLawTrim) (defBody sLawTrim) (defScope sLawTrim) .none kV22 dc22 pm22 an22 cd22 ct22), sl22⟩)
    (c22 : PySem.W.codeIn K cd22 "_law_trim" = true)
    (k22 : PySem.W.keepIn K (.ref f22) = true)
    (a23 : PySem.W.nsIn K mainGlobals "_law_times" = some (some (.ref f23)))
    (l23 : K.lookup f23 = some ⟨oc23, od23, .func (PySem.W.fnOf "_law_times" "_law_times" (defArgs sLawTimes) (defBody sLawTimes) (defScope sLawTimes) .none kV23 dc23 pm23 an23 cd23 ct23), sl23⟩)
    (c23 : PySem.W.codeIn K cd23 "_law_times" = true)
    (k23 : PySem.W.keepIn K (.ref f23) = true)
    (a24 : PySem.W.nsIn K mainGlobals "_law_cells" = some (some (.ref f24)))
    (l24 : K.lookup f24 = some ⟨oc24, od24, .func (PySem.W.fnOf "_law_cells" "_law_cells" (defArgs sLawCells) (defBody sLawCells) (defScope sLawCells) .none kV24 dc24 pm24 an24 cd24 ct24), sl24⟩)
    (c24 : PySem.W.codeIn K cd24 "_law_cells" = true)
    (k24 : PySem.W.keepIn K (.ref f24) = true)
    (a25 : PySem.W.nsIn K mainGlobals "_law_pair" = some (some (.ref f25)))
    (l25 : K.lookup f25 = some ⟨oc25, od25, .func (PySem.W.fnOf "_law_pair" "_law_pair" (defArgs sLawPair) (defBody sLawPair) (defScope sLawPair) .none kV25 dc25 pm25 an25 cd25 ct25), sl25⟩)
    (c25 : PySem.W.codeIn K cd25 "_law_pair" = true)
    (k25 : PySem.W.keepIn K (.ref f25) = true)
    (a26 : PySem.W.nsIn K mainGlobals "_law_rest" = some (some (.ref f26)))
    (l26 : K.lookup f26 = some ⟨oc26, od26, .func (PySem.W.fnOf "_law_rest" "_law_rest" (defArgs sLawRest) (defBody sLawRest) (defScope sLawRest) .none kV26 dc26 pm26 an26 cd26 ct26), sl26⟩)
    (c26 : PySem.W.codeIn K cd26 "_law_rest" = true)
    (k26 : PySem.W.keepIn K (.ref f26) = true)
    (a27 : PySem.W.nsIn K mainGlobals "_law_coprime" = some (some (.ref f27)))
    (l27 : K.lookup f27 = some ⟨oc27, od27, .func (PySem.W.fnOf "_law_coprime" "_law_coprime" (defArgs sLawCoprime) (defBody sLawCoprime) (defScope sLawCoprime) .none kV27 dc27 pm27 an27 cd27 ct27), sl27⟩)
    (c27 : PySem.W.codeIn K cd27 "_law_coprime" = true)
    (k27 : PySem.W.keepIn K (.ref f27) = true)
    (a28 : PySem.W.nsIn K mainGlobals "_law_series_so" = some (some (.ref f28)))
    (l28 : K.lookup f28 = some ⟨oc28, od28, .func (PySem.W.fnOf "_law_series_so" "_law_series_so" (defArgs sLawSo) (defBody sLawSo) (defScope sLawSo) .none kV28 dc28 pm28 an28 cd28 ct28), sl28⟩)
    (c28 : PySem.W.codeIn K cd28 "_law_series_so" = true)
    (k28 : PySem.W.keepIn K (.ref f28) = true)
    (al : PySem.W.nsIn K mainGlobals "law" = some (some (.ref fl)))
    (ll : K.lookup fl = some ⟨ocl, odl, .func (PySem.W.fnOf "law" "law" (defArgs sLaw) (defBody sLaw) (defScope sLaw) .none kVl dcl pml anl (.ref c0) ctl), sll⟩)
    (cl : PySem.W.codeIn K (.ref c0) "law" = true)
    (kl : PySem.W.keepIn K (.ref fl) = true)
    (z_isinstance : PySem.W.nsIn K mainGlobals "isinstance" = some none)
    (z_str : PySem.W.nsIn K mainGlobals "str" = some none)
    (z_int : PySem.W.nsIn K mainGlobals "int" = some none)
    (z_bool : PySem.W.nsIn K mainGlobals "bool" = some none)
    (z_len : PySem.W.nsIn K mainGlobals "len" = some none)
    (z_all : PySem.W.nsIn K mainGlobals "all" = some none)
    (z_list : PySem.W.nsIn K mainGlobals "list" = some none)
    (z_tuple : PySem.W.nsIn K mainGlobals "tuple" = some none)
    (z_zip : PySem.W.nsIn K mainGlobals "zip" = some none)
    (z_range : PySem.W.nsIn K mainGlobals "range" = some none)
    (z_enumerate : PySem.W.nsIn K mainGlobals "enumerate" = some none)
    (z_max : PySem.W.nsIn K mainGlobals "max" = some none)
    (z_min : PySem.W.nsIn K mainGlobals "min" = some none)
    (z_reversed : PySem.W.nsIn K mainGlobals "reversed" = some none)
    (z_any : PySem.W.nsIn K mainGlobals "any" = some none)
    (e_SPARE_BITS : PySem.W.nsIn K mainGlobals "SPARE_BITS" = some (some (.int 32 tk_SPARE_BITS)))
    (e_MOST_BEATS : PySem.W.nsIn K mainGlobals "MOST_BEATS" = some (some (.int 1000 tk_MOST_BEATS)))
    (e_gcd : PySem.W.nsIn K mainGlobals "gcd" = some (some (.builtin "math.gcd")))
    (a_CS : PySem.W.nsIn K mainGlobals "Series" = some (some (.ref CS)))
    (pgCS : PySem.W.plainGet K CS Str.empty = true)
    (hdCS : PySem.W.hasDictIn K CS = true)
    (poCS : PySem.W.plainOver K CS = true)
    (saCS : PySem.W.findIn K (.ref CS) "__setattr__" = some (some (.builtin "object.__setattr__")))
    (mkCS : PySem.W.makesIn K CS = true)
    (kpCS : PySem.W.keepIn K (.ref CS) = true)
    (ci_CS : PySem.W.clsIn K CS = some cdtCS)
    (noCS_top : PySem.W.findIn K (.ref CS) "_top" = some none)
    (noCS_bottom : PySem.W.findIn K (.ref CS) "_bottom" = some none)
    (noCSorder : PySem.W.findIn K (.ref CS) "order" = some none)
    (pIa : PySem.W.findIn K (.ref CS) "__class__" = some (some (.builtin "object.__class__")))
    (pIb : PySem.W.specialIn K (.builtin "object.__class__") "__get__" = some (some (.builtin "getset_descriptor.__get__")))
    (pIc : PySem.W.takesIn K (.builtin "object.__class__") = some true)
    (pId : PySem.W.mroIn K CS (.type "object") = some true)
    (pIe : PySem.W.kitOne K (.ref CS) (.ref CS) = some true)
    (pIf : PySem.W.kitOne K (.type "list") (.ref CS) = some false)
    (pIg : PySem.W.kitOne K (.type "int") (.ref CS) = some false)
    (aI : PySem.W.findIn K (.ref CS) "__init__" = some (some (.ref fI)))
    (nI : PySem.W.isFn K (.ref fI) = true)
    (lI : K.lookup fI = some ⟨ocI, odI, .func (PySem.W.fnOf "__init__" "Series.__init__" (defArgs sS_init) (defBody sS_init) (defScope sS_init) (.ref TI) kVI dcI pmI anI cdI ctI), slI⟩)
    (cI : PySem.W.codeIn K cdI "Series.__init__" = true)
    (kI : PySem.W.keepIn K (.ref fI) = true)
    (tI : K.lookup TI = some ⟨tcI, tdI, .seq #[.ref dT] tnI, tsI⟩)
    (tD : K.lookup dT = some ⟨.type "tuple", tdD, .seq #[.int 1 tkD] tnD, tsD⟩)
    (aS0 : PySem.W.findIn K (.ref CS) "top" = some (some (.ref fS0)))
    (nS0 : PySem.W.isFn K (.ref fS0) = true)
    (lS0 : K.lookup fS0 = some ⟨ocS0, odS0, .func (PySem.W.fnOf "top" "Series.top" (defArgs sS_top) (defBody sS_top) (defScope sS_top) .none kVS0 dcS0 pmS0 anS0 cdS0 ctS0), slS0⟩)
    (cS0 : PySem.W.codeIn K cdS0 "Series.top" = true)
    (kS0 : PySem.W.keepIn K (.ref fS0) = true)
    (aS1 : PySem.W.findIn K (.ref CS) "bottom" = some (some (.ref fS1)))
    (nS1 : PySem.W.isFn K (.ref fS1) = true)
    (lS1 : K.lookup fS1 = some ⟨ocS1, odS1, .func (PySem.W.fnOf "bottom" "Series.bottom" (defArgs sS_bottom) (defBody sS_bottom) (defScope sS_bottom) .none kVS1 dcS1 pmS1 anS1 cdS1 ctS1), slS1⟩)
    (cS1 : PySem.W.codeIn K cdS1 "Series.bottom" = true)
    (kS1 : PySem.W.keepIn K (.ref fS1) = true)
    (aS2 : PySem.W.findIn K (.ref CS) "coefficient" = some (some (.ref fS2)))
    (nS2 : PySem.W.isFn K (.ref fS2) = true)
    (lS2 : K.lookup fS2 = some ⟨ocS2, odS2, .func (PySem.W.fnOf "coefficient" "Series.coefficient" (defArgs sS_coef) (defBody sS_coef) (defScope sS_coef) .none kVS2 dcS2 pmS2 anS2 cdS2 ctS2), slS2⟩)
    (cS2 : PySem.W.codeIn K cdS2 "Series.coefficient" = true)
    (kS2 : PySem.W.keepIn K (.ref fS2) = true)
    (aS3 : PySem.W.findIn K (.ref CS) "first" = some (some (.ref fS3)))
    (nS3 : PySem.W.isFn K (.ref fS3) = true)
    (lS3 : K.lookup fS3 = some ⟨ocS3, odS3, .func (PySem.W.fnOf "first" "Series.first" (defArgs sS_first) (defBody sS_first) (defScope sS_first) .none kVS3 dcS3 pmS3 anS3 cdS3 ctS3), slS3⟩)
    (cS3 : PySem.W.codeIn K cdS3 "Series.first" = true)
    (kS3 : PySem.W.keepIn K (.ref fS3) = true)
    (aS4 : PySem.W.findIn K (.ref CS) "__lshift__" = some (some (.ref fS4)))
    (nS4 : PySem.W.isFn K (.ref fS4) = true)
    (lS4 : K.lookup fS4 = some ⟨ocS4, odS4, .func (PySem.W.fnOf "__lshift__" "Series.__lshift__" (defArgs sS_lsh) (defBody sS_lsh) (defScope sS_lsh) .none kVS4 dcS4 pmS4 anS4 cdS4 ctS4), slS4⟩)
    (cS4 : PySem.W.codeIn K cdS4 "Series.__lshift__" = true)
    (kS4 : PySem.W.keepIn K (.ref fS4) = true)
    (aS5 : PySem.W.findIn K (.ref CS) "__rshift__" = some (some (.ref fS5)))
    (nS5 : PySem.W.isFn K (.ref fS5) = true)
    (lS5 : K.lookup fS5 = some ⟨ocS5, odS5, .func (PySem.W.fnOf "__rshift__" "Series.__rshift__" (defArgs sS_rsh) (defBody sS_rsh) (defScope sS_rsh) .none kVS5 dcS5 pmS5 anS5 cdS5 ctS5), slS5⟩)
    (cS5 : PySem.W.codeIn K cdS5 "Series.__rshift__" = true)
    (kS5 : PySem.W.keepIn K (.ref fS5) = true)
    (uU : PySem.W.nsIn K mainGlobals "UnopenedError" = some (some (.ref U)))
    (uMM : PySem.W.nsIn K mainGlobals "Missing" = some (some (.ref MM)))
    (uNL : PySem.W.nsIn K mainGlobals "NothingLeft" = some (some (.ref NL)))
    (hZ : CX K CZ eZ "InvalidSeries" "InvalidSeries.__init__" sEInvalidSeries (.ref U :: XV.tailVE) "ValueError.__new__" [])
    (noZ_order : PySem.W.findIn K (.ref CZ) "order" = some none)
    (noZ_value : PySem.W.findIn K (.ref CZ) "value" = some none)
    (exZ : PySem.W.exmAny K (.ref CZ) [.ref U, .ref MM, .ref NL] = some true)
    (hN : CX K CN eN "InvalidNumber" "InvalidNumber.__init__" sEInvalidNumber (.ref U :: XV.tailVE) "ValueError.__new__" [])
    (noN_order : PySem.W.findIn K (.ref CN) "order" = some none)
    (noN_value : PySem.W.findIn K (.ref CN) "value" = some none)
    (exN : PySem.W.exmAny K (.ref CN) [.ref U, .ref MM, .ref NL] = some true)
    (moCS : cdtCS.mro = [.ref CS, .type "object"])
    (li_lshift : PySem.W.findIn K (.type "int") "__rlshift__" = some (some (.builtin "int.__rlshift__")))
    (lb_lshift : PySem.W.findIn K (.type "bool") "__rlshift__" = some (some (.builtin "int.__rlshift__")))
    (li_rshift : PySem.W.findIn K (.type "int") "__rrshift__" = some (some (.builtin "int.__rrshift__")))
    (lb_rshift : PySem.W.findIn K (.type "bool") "__rrshift__" = some (some (.builtin "int.__rrshift__")))
    (nr_lshift : PySem.W.findIn K (.ref CS) "__rlshift__" = some none)
    (nr_rshift : PySem.W.findIn K (.ref CS) "__rrshift__" = some none)
    (rdD : PySem.W.readsIn K CS (.type "type") = true)
    (gaD : PySem.W.specialIn K (.ref CS) "__getattribute__" = some (some (.builtin "type.__getattribute__")))
    (atD : PySem.W.findCls K (.ref CS) (.type "type") "delay" = some (.get (.builtin "staticmethod.__get__") (.ref prD) .none (.ref CS)))
    (rcD : PySem.W.recIn K prD "staticmethod" = some (.ref fDl :: rstD))
    (lD : K.lookup fDl = some ⟨ocD, odD, .func (PySem.W.fnOf "delay" "Series.delay" (defArgs sS_delay) (defBody sS_delay) (defScope sS_delay) .none kVD dcD pmD anD cdD ctD), slD⟩)
    (cD : PySem.W.codeIn K cdD "Series.delay" = true)
    (kD : PySem.W.keepIn K (.ref fDl) = true)
    : ∃ fd : FuncData, (∀ (s : Shared) (v : Value), BindsTo s fd ⟨[v], []⟩ [("_law_script", v)]) ∧ ∀ base : Heap, K.In base → base.Ns mainGlobals mg → LamX.TabB base mg c0 P0 → FnOk l.prog w K mg base CX0 11 fa fd ["_law_script"] (spLawT K P0) := by
  have F1 := fun_mk (st := sIsInteger) l1 c1 k1
  have m1 := PySem.W.mg_of X G a1
  have b1 := F1.binds (ps := ["value"]) fun _ _ _ _ _ _ us hl => match us, hl with | [_], _ => rfl
  have F2 := fun_mk (st := sIsNumber) l2 c2 k2
  have m2 := PySem.W.mg_of X G a2
  have b2 := F2.binds (ps := ["value", "least", "most"]) fun _ _ _ _ _ _ us hl => match us, hl with | [_, _, _], _ => rfl
  have F3 := fun_mk (st := sTrimmed) l3 c3 k3
  have m3 := PySem.W.mg_of X G a3
  have b3 := F3.binds (ps := ["row"]) fun _ _ _ _ _ _ us hl => match us, hl with | [_], _ => rfl
  have F4 := fun_mk (st := sOrderOf) l4 c4 k4
  have m4 := PySem.W.mg_of X G a4
  have b4 := F4.binds (ps := ["row"]) fun _ _ _ _ _ _ us hl => match us, hl with | [_], _ => rfl
  have F5 := fun_mk (st := sQuotientOf) l5 c5 k5
  have m5 := PySem.W.mg_of X G a5
  have b5 := F5.binds (ps := ["row", "factor"]) fun _ _ _ _ _ _ us hl => match us, hl with | [_, _], _ => rfl
  have F6 := fun_mk (st := sRootBits) l6 c6 k6
  have m6 := PySem.W.mg_of X G a6
  have b6 := F6.binds (ps := ["row"]) fun _ _ _ _ _ _ us hl => match us, hl with | [_], _ => rfl
  have F7 := fun_mk (st := sValueAt) l7 c7 k7
  have m7 := PySem.W.mg_of X G a7
  have b7 := F7.binds (ps := ["row", "bits"]) fun _ _ _ _ _ _ us hl => match us, hl with | [_, _], _ => rfl
  have F8 := fun_mk (st := sDigitsOf) l8 c8 k8
  have m8 := PySem.W.mg_of X G a8
  have b8 := F8.binds (ps := ["number", "bits"]) fun _ _ _ _ _ _ us hl => match us, hl with | [_, _], _ => rfl
  have F9 := fun_mk (st := sBegunWithOne) l9 c9 k9
  have m9 := PySem.W.mg_of X G a9
  have b9 := F9.binds (ps := ["row"]) fun _ _ _ _ _ _ us hl => match us, hl with | [_], _ => rfl
  have F10 := fun_mk (st := sCancelled) l10 c10 k10
  have m10 := PySem.W.mg_of X G a10
  have b10 := F10.binds (ps := ["one", "other"]) fun _ _ _ _ _ _ us hl => match us, hl with | [_, _], _ => rfl
  have F11 := fun_mk (st := sReduced) l11 c11 k11
  have m11 := PySem.W.mg_of X G a11
  have b11 := F11.binds (ps := ["top", "bottom"]) fun _ _ _ _ _ _ us hl => match us, hl with | [_, _], _ => rfl
  have F12 := fun_mk (st := sIsRow) l12 c12 k12
  have m12 := PySem.W.mg_of X G a12
  have b12 := F12.binds (ps := ["value"]) fun _ _ _ _ _ _ us hl => match us, hl with | [_], _ => rfl
  have F13 := fun_mk (st := sDelayed) l13 c13 k13
  have m13 := PySem.W.mg_of X G a13
  have b13 := F13.binds (ps := ["series", "beats"]) fun _ _ _ _ _ _ us hl => match us, hl with | [_, _], _ => rfl
  have F14 := fun_mk (st := sHastened) l14 c14 k14
  have m14 := PySem.W.mg_of X G a14
  have b14 := F14.binds (ps := ["series", "beats"]) fun _ _ _ _ _ _ us hl => match us, hl with | [_, _], _ => rfl
  have F15 := fun_mk (st := sExpanded) l15 c15 k15
  have m15 := PySem.W.mg_of X G a15
  have b15 := F15.binds (ps := ["top", "bottom", "length"]) fun _ _ _ _ _ _ us hl => match us, hl with | [_, _, _], _ => rfl
  have F16 := fun_mk (st := sBag) l16 c16 k16
  have m16 := PySem.W.mg_of X G a16
  have b16 := F16.binds (ps := ["_law_script"]) fun _ _ _ _ _ _ us hl => match us, hl with | [_], _ => rfl
  have F17 := fun_mk (st := sPull) l17 c17 k17
  have m17 := PySem.W.mg_of X G a17
  have b17 := F17.binds (ps := ["_law_bag_here", "_law_many"]) fun _ _ _ _ _ _ us hl => match us, hl with | [_, _], _ => rfl
  have F18 := fun_mk (st := sAny) l18 c18 k18
  have m18 := PySem.W.mg_of X G a18
  have b18 := F18.binds (ps := ["_law_bag_here", "_law_things"]) fun _ _ _ _ _ _ us hl => match us, hl with | [_, _], _ => rfl
  have F19 := fun_mk (st := sSame) l19 c19 k19
  have m19 := PySem.W.mg_of X G a19
  have b19 := F19.binds (ps := ["_law_found", "_law_due"]) fun _ _ _ _ _ _ us hl => match us, hl with | [_, _], _ => rfl
  have F20 := fun_mk (st := sWhy) l20 c20 k20
  have m20 := PySem.W.mg_of X G a20
  have b20 := F20.binds (ps := ["_law_ask"]) fun _ _ _ _ _ _ us hl => match us, hl with | [_], _ => rfl
  have F21 := fun_mk (st := sField) l21 c21 k21
  have m21 := PySem.W.mg_of X G a21
  have b21 := F21.binds (ps := ["_law_e"]) fun _ _ _ _ _ _ us hl => match us, hl with | [_], _ => rfl
  have F22 := fun_mk (st := sLawTrim) l22 c22 k22
  have m22 := PySem.W.mg_of X G a22
  have b22 := F22.binds (ps := ["_law_cells_here"]) fun _ _ _ _ _ _ us hl => match us, hl with | [_], _ => rfl
  have F23 := fun_mk (st := sLawTimes) l23 c23 k23
  have m23 := PySem.W.mg_of X G a23
  have b23 := F23.binds (ps := ["_law_one", "_law_other"]) fun _ _ _ _ _ _ us hl => match us, hl with | [_, _], _ => rfl
  have F24 := fun_mk (st := sLawCells) l24 c24 k24
  have m24 := PySem.W.mg_of X G a24
  have b24 := F24.binds (ps := ["_law_bag_here", "_law_many", "_law_wide"]) fun _ _ _ _ _ _ us hl => match us, hl with | [_, _, _], _ => rfl
  have F25 := fun_mk (st := sLawPair) l25 c25 k25
  have m25 := PySem.W.mg_of X G a25
  have b25 := F25.binds (ps := ["_law_bag_here", "_law_many", "_law_wide"]) fun _ _ _ _ _ _ us hl => match us, hl with | [_, _, _], _ => rfl
  have F26 := fun_mk (st := sLawRest) l26 c26 k26
  have m26 := PySem.W.mg_of X G a26
  have b26 := F26.binds (ps := ["_law_one", "_law_other"]) fun _ _ _ _ _ _ us hl => match us, hl with | [_, _], _ => rfl
  have F27 := fun_mk (st := sLawCoprime) l27 c27 k27
  have m27 := PySem.W.mg_of X G a27
  have b27 := F27.binds (ps := ["_law_one", "_law_other"]) fun _ _ _ _ _ _ us hl => match us, hl with | [_, _], _ => rfl
  have F28 := fun_mk (st := sLawSo) l28 c28 k28
  have m28 := PySem.W.mg_of X G a28
  have b28 := F28.binds (ps := ["_law_found", "_law_pair_here"]) fun _ _ _ _ _ _ us hl => match us, hl with | [_, _], _ => rfl
  have ml := PySem.W.mg_of X G al
  cases hfa.symm.trans ml
  have m_isinstance := PySem.W.mg_none_of X G z_isinstance
  have m_str := PySem.W.mg_none_of X G z_str
  have m_int := PySem.W.mg_none_of X G z_int
  have m_bool := PySem.W.mg_none_of X G z_bool
  have m_len := PySem.W.mg_none_of X G z_len
  have m_all := PySem.W.mg_none_of X G z_all
  have m_list := PySem.W.mg_none_of X G z_list
  have m_tuple := PySem.W.mg_none_of X G z_tuple
  have m_zip := PySem.W.mg_none_of X G z_zip
  have m_range := PySem.W.mg_none_of X G z_range
  have m_enumerate := PySem.W.mg_none_of X G z_enumerate
  have m_max := PySem.W.mg_none_of X G z_max
  have m_min := PySem.W.mg_none_of X G z_min
  have m_reversed := PySem.W.mg_none_of X G z_reversed
  have m_any := PySem.W.mg_none_of X G z_any
  have me_SPARE_BITS := PySem.W.mg_of X G e_SPARE_BITS
  have me_MOST_BEATS := PySem.W.mg_of X G e_MOST_BEATS
  have me_gcd := PySem.W.mg_of X G e_gcd
  have m_CS := PySem.W.mg_of X G a_CS
  have ClCS : Cls K CS := ⟨pgCS, hdCS, poCS, saCS⟩
  have SC : SerC K CS := ⟨ClCS, noCS_top, noCS_bottom, noCSorder⟩
  have INS : IsS K CS := { cl := ClCS, ha := pIa, hn := pIb, htk := pIc, hm := pId, me := pIe, lst := pIf, int := pIg }
  have dflI : DflV K (.ref TI) [V.ref dT] := .inr ⟨by simp, TI, _, [.ref dT], tnI, rfl, tI, rfl, .cons rfl .nil⟩
  have FI : FunD K "__init__" "Series.__init__" (defArgs sS_init) (defBody sS_init) (defScope sS_init) [V.ref dT] [] fI _ := ⟨⟨_, _, _, _, _, _, _, _, _, _, rfl, lI, cI, dflI, .inl rfl⟩, kI⟩
  obtain ⟨e2, v2, bI2⟩ := FI.binds1 (ps := serPs) 3 1 (by simp) rfl (fun T kV doc pm an cdv ct us its h1 h2 => match us, its, h1, h2 with | [_, _, _], [_], _, _ => ⟨_, rfl, rfl⟩)
  cases v2
  obtain ⟨e1, v1, bI1⟩ := FI.binds1 (ps := serPs) 2 0 (by simp) rfl (fun T kV doc pm an cdv ct us its h1 h2 => match us, its, h1, h2 with | [_, _], [_], _, _ => ⟨_, rfl, rfl⟩)
  obtain ⟨_, kbS⟩ := FI.kbindsD (ps := serPs) 2 ["bottom"] (fun us _ ws => us ++ ws) (by simp) (fun r1 _ r3 => r1.append r3) (fun T kV doc pm an cdv ct us its ws h1 h2 h3 => match us, its, ws, h1, h2, h3 with | [_, _], [_], [_], _, _, _ => ⟨_, rfl, rfl⟩)
  have mkS : Mk K CS fI := ⟨mkCS, aI, nI, kpCS⟩
  have FS0 := fun_mk (st := sS_top) lS0 cS0 kS0
  have MS0 : Meth K CS "top" fS0 := ⟨aS0, nS0, kS0⟩
  have bS0 := FS0.binds (ps := ["self"]) fun _ _ _ _ _ _ us hl => match us, hl with | [_], _ => rfl
  have FS1 := fun_mk (st := sS_bottom) lS1 cS1 kS1
  have MS1 : Meth K CS "bottom" fS1 := ⟨aS1, nS1, kS1⟩
  have bS1 := FS1.binds (ps := ["self"]) fun _ _ _ _ _ _ us hl => match us, hl with | [_], _ => rfl
  have FS2 := fun_mk (st := sS_coef) lS2 cS2 kS2
  have MS2 : Meth K CS "coefficient" fS2 := ⟨aS2, nS2, kS2⟩
  have bS2 := FS2.binds (ps := ["self", "k"]) fun _ _ _ _ _ _ us hl => match us, hl with | [_, _], _ => rfl
  have FS3 := fun_mk (st := sS_first) lS3 cS3 kS3
  have MS3 : Meth K CS "first" fS3 := ⟨aS3, nS3, kS3⟩
  have bS3 := FS3.binds (ps := ["self", "n"]) fun _ _ _ _ _ _ us hl => match us, hl with | [_, _], _ => rfl
  have FS4 := fun_mk (st := sS_lsh) lS4 cS4 kS4
  have MS4 : Meth K CS "__lshift__" fS4 := ⟨aS4, nS4, kS4⟩
  have bS4 := FS4.binds (ps := ["self", "other"]) fun _ _ _ _ _ _ us hl => match us, hl with | [_, _], _ => rfl
  have FS5 := fun_mk (st := sS_rsh) lS5 cS5 kS5
  have MS5 : Meth K CS "__rshift__" fS5 := ⟨aS5, nS5, kS5⟩
  have bS5 := FS5.binds (ps := ["self", "other"]) fun _ _ _ _ _ _ us hl => match us, hl with | [_, _], _ => rfl
  have m_U := PySem.W.mg_of X G uU
  have m_MM := PySem.W.mg_of X G uMM
  have m_NL := PySem.W.mg_of X G uNL
  obtain ⟨gZa, gZb, gZs, gZk, gZi, gZt, fdZ, GZ⟩ := hZ
  have TZ := gZb.oex F.excBase_ValueError XV.tailVE_ok rfl rfl gZs gZk
  have qZ := PySem.W.mg_of X G gZa
  have erZ : ErC K [.ref U, .ref MM, .ref NL] CZ := ⟨⟨gZb.2.1, gZb.2.2.1, TZ.exC, by obtain ⟨_, _, _, _, _, _, _, _, _, _, _, _, _, _, lz⟩ := gZb.1; exact cl_dict lz⟩, fun n hn => by
    simp only [attrsX, List.mem_cons, List.not_mem_nil, or_false] at hn
    rcases hn with rfl | rfl | rfl
    · exact gZb.2.2.2.2.1
    · exact noZ_order
    · exact noZ_value, exZ⟩
  obtain ⟨gNa, gNb, gNs, gNk, gNi, gNt, fdN, GN⟩ := hN
  have TN := gNb.oex F.excBase_ValueError XV.tailVE_ok rfl rfl gNs gNk
  have qN := PySem.W.mg_of X G gNa
  have erN : ErC K [.ref U, .ref MM, .ref NL] CN := ⟨⟨gNb.2.1, gNb.2.2.1, TN.exC, by obtain ⟨_, _, _, _, _, _, _, _, _, _, _, _, _, _, lz⟩ := gNb.1; exact cl_dict lz⟩, fun n hn => by
    simp only [attrsX, List.mem_cons, List.not_mem_nil, or_false] at hn
    rcases hn with rfl | rfl | rfl
    · exact gNb.2.2.2.2.1
    · exact noN_order
    · exact noN_value, exN⟩
  have FD := fun_mk (st := sS_delay) lD cD kD
  have bD := FD.binds (ps := ["d"]) fun _ _ _ _ _ _ us hl => match us, hl with | [_], _ => rfl
  have kbD := Fun.kbn FD (ps := ["d"]) 0 ["d"] (fun us ws => us ++ ws) (fun vs zs => vs ++ zs) (fun r rz => r.append rz) fun _ _ _ _ _ _ us ws h1 h2 => match us, ws, h1, h2 with | [], [_], _, _ => rfl
  obtain ⟨_, kbB⟩ := FI.kbindsD (ps := serPs) 1 ["bottom", "top"] (fun us _ ws => us ++ ws.reverse) (by simp) (fun r1 _ r3 => r1.append r3.reverse) (fun T kV doc pm an cdv ct us its ws h1 h2 h3 => match us, its, ws, h1, h2, h3 with | [_], [_], [_, _], _, _, _ => ⟨_, rfl, rfl⟩)
  refine ⟨PySem.W.fnOf "law" "law" (defArgs sLaw) (defBody sLaw) (defScope sLaw) .none kVl dcl pml anl (.ref c0) ctl, fun s v => .of_eq rfl, fun base _ _ TB => ?_⟩
  have XZ : Xr l.prog w K mg base CZ 0 eZ fdZ "InvalidSeries" ["self"] (spI0 CZ "InvalidSeries" ) (fun us ws => us ++ ws) := ⟨⟨TZ, gZi, gZt, ok_eInvalidSeries GZ TZ gZb.2.2.2.2.1 , qZ⟩, Fun.kbn GZ 1 [] (fun us ws => us ++ ws) (fun vs zs => vs ++ zs) (fun r rz => r.append rz) fun _ _ _ _ _ _ us ws h1 h2 => match us, ws, h1, h2 with | [_], [], _, _ => rfl⟩
  have XN : Xr l.prog w K mg base CN 1 eN fdN "InvalidNumber" ["self", "value"] (spI1 CN "InvalidNumber" "value") (fun us ws => us ++ ws) := ⟨⟨TN, gNi, gNt, ok_eInvalidNumber GN TN gNb.2.2.2.2.1 noN_value, qN⟩, Fun.kbn GN 2 [] (fun us ws => us ++ ws) (fun vs zs => vs ++ zs) (fun r rz => r.append rz) fun _ _ _ _ _ _ us ws h1 h2 => match us, ws, h1, h2 with | [_, _], [], _, _ => rfl⟩
  have PT : PolT K w mg := ⟨m_len, m_list, m_range, m_enumerate, m_max, m_min, m_reversed, m_any, me_gcd, ⟨_, me_SPARE_BITS⟩⟩
  have ST : SerT mg := ⟨m_isinstance, m_list, m_tuple, m_all⟩
  have LT : LawT mg := ⟨m_len, m_list, m_range, m_enumerate, m_max, m_min, m_zip, m_all, m_isinstance, m_int, m_bool⟩
  have SX : SameTxt mg := ⟨m_isinstance, m_list, m_tuple, m_len, m_all, m_zip, m_bool, m_int, m_str⟩
  have D1 : Df l.prog w K mg base 1 f1 _ "is_integer" ["value"] (spInteger K) := ⟨ok_isint2 F1 m_isinstance m_int m_bool, b1, k1, m1⟩
  have D2 : Df l.prog w K mg base 2 f2 _ "is_number" ["value", "least", "most"] (spNumber K) := ⟨ok_isnumber F2 D1.ok b1 k1 m1, b2, k2, m2⟩
  have D3 : Df l.prog w K mg base 1 f3 _ "trimmed" ["row"] (spTrimmed K) := ⟨ok_trimmed F3 PT, b3, k3, m3⟩
  have D4 : Df l.prog w K mg base 1 f4 _ "order_of" ["row"] (spOrderOf K) := ⟨ok_orderOf F4 PT, b4, k4, m4⟩
  have D5 : Df l.prog w K mg base 2 f5 _ "quotient_of" ["row", "factor"] (spQuo K) := ⟨ok_quo F5 PT D4, b5, k5, m5⟩
  have D6 : Df l.prog w K mg base 1 f6 _ "root_bits" ["row"] (spRootBits K) := ⟨ok_rootBits F6 PT, b6, k6, m6⟩
  have D7 : Df l.prog w K mg base 1 f7 _ "value_at" ["row", "bits"] (spValueAt K) := ⟨ok_valueAt F7 PT, b7, k7, m7⟩
  have D8 : Df l.prog w K mg base 1 f8 _ "digits_of" ["number", "bits"] (spDigitsOf K) := ⟨ok_digitsOf F8 PT, b8, k8, m8⟩
  have D9 : Df l.prog w K mg base 1 f9 _ "begun_with_one" ["row"] (spBegun K) := ⟨ok_begun F9 PT, b9, k9, m9⟩
  have D10 : Df l.prog w K mg base 3 f10 _ "cancelled" ["one", "other"] (spCanc K) := ⟨ok_canc F10 PT D6 D7 D8 D9 D5, b10, k10, m10⟩
  have D11 : Df l.prog w K mg base 4 f11 _ "reduced" ["top", "bottom"] (spReduced K) := ⟨ok_reduced F11 PT D3 D4 D10, b11, k11, m11⟩
  have D12 : Df l.prog w K mg base 2 f12 _ "is_row" ["value"] (spIsRow K) := ⟨ok_isRow F12 ST D1, b12, k12, m12⟩
  have okS : FnOk l.prog w K mg base CX0 5 fI _ serPs (spSerI K CS) := ok_serI FI SC D12 D11 D4
  have MKS : MakS l.prog w K mg base CS fI _ (V.ref dT) _ := ⟨mkS, okS, m_CS, bI2, bI1, v1, fun H => ⟨dT, rfl, .inr (.inr ⟨_, _, _, tD, rfl, rfl, by show 1 ≤ sizeLine; decide, .cons ⟨_, rfl⟩ .nil⟩)⟩⟩
  have MT : Mt l.prog w K mg base CS 1 fS0 _ "top" ["self"] (spTopM CS) := ⟨MS0, ok_serTop FS0 SC ST, bS0⟩
  have MB : Mt l.prog w K mg base CS 1 fS1 _ "bottom" ["self"] (spBotM CS) := ⟨MS1, ok_serBottom FS1 SC ST, bS1⟩
  have DRL : Df l.prog w K mg base 2 f12 _ "is_row" ["value"] (spIsRowL K) := ⟨ok_isRowL F12 ST D1, b12, k12, m12⟩
  have DRO : Df l.prog w K mg base 2 f12 _ "is_row" ["value"] (fun vs H Q E => spIsRow K vs H Q E ∨ spIsRowN K vs H Q E) := ⟨fn_or D12.ok (ok_isRowN F12 ST D1), b12, k12, m12⟩
  have DRP : Df l.prog w K mg base 4 f11 _ "reduced" ["top", "bottom"] (spReducedP K) := ⟨ok_reducedP F11 PT D3 D4 D10, b11, k11, m11⟩
  have okP : FnOk l.prog w K mg base CX0 5 fI _ serPs (spSerP K CS) := ok_serP FI SC DRL DRP D4
  have MKP : MakP l.prog w K mg base CS fI _ (V.ref dT) _ := ⟨mkS, okP, m_CS, bI2, bI1, v1, fun H => ⟨dT, rfl, .inr (.inr ⟨_, _, _, tD, rfl, rfl, by show 1 ≤ sizeLine; decide, .cons ⟨_, rfl⟩ .nil⟩)⟩⟩
  have okB : FnOk l.prog w K mg base (L2.CX l.prog w) 5 fI _ serPs (spSerB K CZ) := ok_serB (C := CS) (gn := fI) (dn := fdZ) FI XZ DRO D11 D4
  have OAL : AnyX.OpA K CS "lshift" "__lshift__" := ⟨⟨⟨_, ci_CS, moCS⟩, rfl, ⟨_, nr_lshift, .inl rfl⟩, PySem.F.fills_int_lshift, ⟨_, li_lshift⟩⟩, PySem.F.fills_bool_lshift, rfl, rfl, rfl, ⟨_, lb_lshift⟩⟩
  have OAR : AnyX.OpA K CS "rshift" "__rshift__" := ⟨⟨⟨_, ci_CS, moCS⟩, rfl, ⟨_, nr_rshift, .inl rfl⟩, PySem.F.fills_int_rshift, ⟨_, li_rshift⟩⟩, PySem.F.fills_bool_rshift, rfl, rfl, rfl, ⟨_, lb_rshift⟩⟩
  have okDW := ok_delayW (P := l.prog) (w := w) (base := base) MKS FD XN me_MOST_BEATS D2
  have okDP := ok_delayP (P := l.prog) (w := w) (base := base) FD MKP me_MOST_BEATS D2
  have D13 : Df l.prog w K mg base 7 f13 _ "delayed" ["series", "beats"] (spLateP CS) := ⟨ok_delayedP F13 SC MKP MT MB, b13, k13, m13⟩
  have D14 : Df l.prog w K mg base 7 f14 _ "hastened" ["series", "beats"] (spEarlyP CS) := ⟨ok_hastenedP F14 SC MKP MT MB, b14, k14, m14⟩
  have MLP : OwnX.OMt l.prog w K mg base CS 8 fS4 _ "__lshift__" opPs (spLateP CS) := ⟨MS4, ok_lshP FS4 me_MOST_BEATS D2 D13, bS4⟩
  have MRP : OwnX.OMt l.prog w K mg base CS 8 fS5 _ "__rshift__" opPs (spRsh0 CS) := ⟨MS5, ok_rshP FS5 SC me_MOST_BEATS D2 D14, bS5⟩
  have MLW : MtX l.prog w K mg base CS 8 fS4 _ "__lshift__" opPs (spWr CN) := ⟨MS4, ok_lshW (C := CS) D13 FS4 XN me_MOST_BEATS D2, bS4⟩
  have MRW : MtX l.prog w K mg base CS 8 fS5 _ "__rshift__" opPs (spWr CN) := ⟨MS5, ok_rshW (C := CS) D14 FS5 XN me_MOST_BEATS D2, bS5⟩
  have D15 : Df l.prog w K mg base 1 f15 _ "expanded" ["top", "bottom", "length"] (spExpanded K) := ⟨ok_expanded F15 PT, b15, k15, m15⟩
  have MC : Mt l.prog w K mg base CS 3 fS2 _ "coefficient" ["self", "k"] (spCoef CS) := ⟨MS2, ok_coef FS2 SC me_MOST_BEATS D2 D15, bS2⟩
  have MF : Mt l.prog w K mg base CS 3 fS3 _ "first" ["self", "n"] (spFirst CS) := ⟨MS3, ok_first FS3 SC me_MOST_BEATS D2 D15, bS3⟩
  have MCW : MtX l.prog w K mg base CS 3 fS2 _ "coefficient" ["self", "k"] (spWr CN) := ⟨MS2, ok_coefficientW (C := CS) D15 FS2 XN me_MOST_BEATS D2, bS2⟩
  have MFW : MtX l.prog w K mg base CS 3 fS3 _ "first" ["self", "n"] (spWr CN) := ⟨MS3, ok_firstW (C := CS) D15 FS3 XN me_MOST_BEATS D2, bS3⟩
  have D16 : Df l.prog w K mg base 1 f16 _ "_law_bag" ["_law_script"] (spBag K) := ⟨ok_bag F16 m_len m_list, b16, k16, m16⟩
  have D17 : Df l.prog w K mg base 1 f17 _ "_law_pull" ["_law_bag_here", "_law_many"] spPull := ⟨ok_pull F17 m_len m_int, b17, k17, m17⟩
  have D18 : Df l.prog w K mg base 2 f18 _ "_law_any" ["_law_bag_here", "_law_things"] (spAny K) := ⟨ok_any F18 D17.ok b17 k17 m17 m_len, b18, k18, m18⟩
  have D19 : Df l.prog w K mg base 6 f19 _ "_law_same" ["_law_found", "_law_due"] (spSame 6) := ⟨all_same F19 SX b19 m19 6, b19, k19, m19⟩
  have D22 : Df l.prog w K mg base 1 f22 _ "_law_trim" ["_law_cells_here"] (spTrimL K) := ⟨ok_trimL F22 LT, b22, k22, m22⟩
  have D23 : Df l.prog w K mg base 2 f23 _ "_law_times" ["_law_one", "_law_other"] (spTimesL K) := ⟨ok_timesL F23 LT D22, b23, k23, m23⟩
  have D24 : Df l.prog w K mg base 2 f24 _ "_law_cells" ["_law_bag_here", "_law_many", "_law_wide"] spCellsL := ⟨ok_cellsL F24 LT D17, b24, k24, m24⟩
  have D25 : Df l.prog w K mg base 3 f25 _ "_law_pair" ["_law_bag_here", "_law_many", "_law_wide"] spPairL := ⟨ok_pairL F25 D17 D24, b25, k25, m25⟩
  have D26 : Df l.prog w K mg base 2 f26 _ "_law_rest" ["_law_one", "_law_other"] (spRestL K) := ⟨ok_restL F26 LT D22, b26, k26, m26⟩
  have D27 : Df l.prog w K mg base 3 f27 _ "_law_coprime" ["_law_one", "_law_other"] (spCopL K) := ⟨ok_copL F27 LT D22 D26, b27, k27, m27⟩
  have D28 : Df l.prog w K mg base 4 f28 _ "_law_series_so" ["_law_found", "_law_pair_here"] (spSoL K CS) := ⟨ok_soL F28 LT SC MT MB D22 D23 D27, b28, k28, m28⟩
  exact ok_law ll cl ⟨LT, SC, ⟨_, _, D16⟩, ⟨_, _, D17⟩, ⟨_, _, D18⟩, ⟨_, _, D19⟩, ⟨_, _, D25⟩, ⟨_, _, D28⟩, m_CS, ⟨fI, _, _, mkS, okB, bI2, kbB⟩, ⟨_, _, _, _, MKS⟩, ⟨_, _, _, _, MKP⟩, ⟨_, _, MCW⟩, ⟨_, _, MFW⟩, ⟨_, _, MLW⟩, ⟨_, _, MRW⟩, OAL, OAR, ⟨.type "type", prD, fDl, _, _, ⟨rdD, gaD⟩, ⟨atD, ⟨_, rcD⟩, kD⟩, bD, kbD, okDW, okDP⟩, ⟨_, _, MC⟩, ⟨_, _, MF⟩, ⟨_, _, MLP⟩, ⟨_, _, MRP⟩, erZ, erN, l20, c20, b20, m20, k20, ok_fieldE F21, b21, k21, m21, m_U, m_MM, m_NL⟩ TB
theorem walk {l : PySem.W.OpenLaw} {q : Program} {loose : List Str} {XP : (Str → Option Value) → Heap → Prop} {YP : World → Heap → Prop} {d : DefRec} {K : Params → PySem.W.Frag} {c0 P0 : Addr} (hn : l.most = some 63) (hdf : d.params.defaults = [])
    (hY : ∀ (w : World) (h : Heap), YP w h → (K w.params).In h) (hT : ∀ (w : World) (h : Heap), YP w h → h.get? P0 = some { cls := .none, data := .fields #[] }) (nT : ∀ P : Params, (K P).lookup P0 = none) (hC : ∀ (w : World) (h : Heap), (K w.params).In h → PySem.W.CodeHd h c0 P0)
    (F : ∀ (w : World) (mg : Str → Option Value) (fa : Addr) (h : Heap), (K w.params).In h → h.Ns mainGlobals mg → mg d.name = some (.ref fa) →
      ∃ fd : FuncData, (∀ (s : Shared) (u : Value), BindsTo s fd ⟨[u], []⟩ [("_law_script", u)]) ∧ ∀ base : Heap, (K w.params).In base → base.Ns mainGlobals mg → LamX.TabB base mg c0 P0 → FnOk l.prog w (K w.params) mg base CX0 11 fa fd ["_law_script"] (spLawT (K w.params) P0)) :
    PySem.W.WalkO q loose XP YP l.row.toRowW d [] (fun f vs => PySem.call f vs) := by
  refine LamX.walk_ofTs (n := 63) (k := 11) (x := "_law_script") (CX := fun _ => CX0) hn (by decide) hdf ⟨rfl, by decide, by decide⟩ hY (fun w mg fa h Y KX G hm => ?_) fun _ _ _ _ _ z => z
  obtain ⟨fd, hb, hF⟩ := F w mg fa h KX G hm
  refine ⟨fd, [(c0, P0)], spLawT (K w.params) P0, fun p hp => ?_, fun p hp => ?_, fun p hp => ?_, hb, fun H a ns hl _ hP hS => ⟨a, ns, rfl, hS, hl, hP (c0, P0) (List.mem_singleton.mpr rfl), fun _ => rfl⟩, fun base hK hN hTB => hF base hK hN (hTB (c0, P0) (List.mem_singleton.mpr rfl))⟩
  · rw [List.mem_singleton.mp hp]
    exact hT w h Y
  · rw [List.mem_singleton.mp hp]
    exact nT w.params
  · rw [List.mem_singleton.mp hp]
    exact hC w h KX
end
end Un
open PySem PySem.W PyProof.Rows
set_option maxRecDepth 100000 in
set_option maxHeartbeats 0 in
theorem PySem.Challenge.cw_unopened_k04_series_refused_holds : PySem.Challenge.rw_unopened_k04_series_refused.Holds := by
  w_on; o_law; k_head; (case hw => w_witness2)
  k_fill
  refine Un.walk (l := PySem.Challenge.rw_unopened_k04_series_refused) (c0 := 517) (P0 := 515) rfl rfl (fun w h Y => PySem.W.km_in_of Y) (fun w h Y => PySem.W.km_tabs_of Y _ (List.mem_singleton.mpr rfl)) (fun P => by kernel_rfl) (fun w h KX => PySem.W.codeHd_of_K (c := 517) (P := 515) KX (by kernel_rfl)) ?F
  case F =>
    intro w mg fa h KX G hmg
    refine' Un.all_mk KX G hmg ?a1 ?l1 ?c1 ?k1 ?a2 ?l2 ?c2 ?k2 ?a3 ?l3 ?c3 ?k3 ?a4 ?l4 ?c4 ?k4 ?a5 ?l5 ?c5 ?k5 ?a6 ?l6 ?c6 ?k6 ?a7 ?l7 ?c7 ?k7 ?a8 ?l8 ?c8 ?k8 ?a9 ?l9 ?c9 ?k9 ?a10 ?l10 ?c10 ?k10 ?a11 ?l11 ?c11 ?k11 ?a12 ?l12 ?c12 ?k12 ?a13 ?l13 ?c13 ?k13 ?a14 ?l14 ?c14 ?k14 ?a15 ?l15 ?c15 ?k15 ?a16 ?l16 ?c16 ?k16 ?a17 ?l17 ?c17 ?k17 ?a18 ?l18 ?c18 ?k18 ?a19 ?l19 ?c19 ?k19 ?a20 ?l20 ?c20 ?k20 ?a21 ?l21 ?c21 ?k21 ?a22 ?l22 ?c22 ?k22 ?a23 ?l23 ?c23 ?k23 ?a24 ?l24 ?c24 ?k24 ?a25 ?l25 ?c25 ?k25 ?a26 ?l26 ?c26 ?k26 ?a27 ?l27 ?c27 ?k27 ?a28 ?l28 ?c28 ?k28 ?al ?ll ?cl ?kl ?z_isinstance ?z_str ?z_int ?z_bool ?z_len ?z_all ?z_list ?z_tuple ?z_zip ?z_range ?z_enumerate ?z_max ?z_min ?z_reversed ?z_any ?e_SPARE_BITS ?e_MOST_BEATS ?e_gcd ?a_CS ?pgCS ?hdCS ?poCS ?saCS ?mkCS ?kpCS ?ci_CS ?noCS_top ?noCS_bottom ?noCSorder ?pIa ?pIb ?pIc ?pId ?pIe ?pIf ?pIg ?aI ?nI ?lI ?cI ?kI ?tI ?tD ?aS0 ?nS0 ?lS0 ?cS0 ?kS0 ?aS1 ?nS1 ?lS1 ?cS1 ?kS1 ?aS2 ?nS2 ?lS2 ?cS2 ?kS2 ?aS3 ?nS3 ?lS3 ?cS3 ?kS3 ?aS4 ?nS4 ?lS4 ?cS4 ?kS4 ?aS5 ?nS5 ?lS5 ?cS5 ?kS5 ?uU ?uMM ?uNL ?hZ ?noZ_order ?noZ_value ?exZ ?hN ?noN_order ?noN_value ?exN ?moCS ?li_lshift ?lb_lshift ?li_rshift ?lb_rshift ?nr_lshift ?nr_rshift ?rdD ?gaD ?atD ?rcD ?lD ?cD ?kD
    (case a1 => k_is)
    (case l1 => k_is)
    (case c1 => k_is)
    (case k1 => k_is)
    (case a2 => k_is)
    (case l2 => k_is)
    (case c2 => k_is)
    (case k2 => k_is)
    (case a3 => k_is)
    (case l3 => k_is)
    (case c3 => k_is)
    (case k3 => k_is)
    (case a4 => k_is)
    (case l4 => k_is)
    (case c4 => k_is)
    (case k4 => k_is)
    (case a5 => k_is)
    (case l5 => k_is)
    (case c5 => k_is)
    (case k5 => k_is)
    (case a6 => k_is)
    (case l6 => k_is)
    (case c6 => k_is)
    (case k6 => k_is)
    (case a7 => k_is)
    (case l7 => k_is)
    (case c7 => k_is)
    (case k7 => k_is)
    (case a8 => k_is)
    (case l8 => k_is)
    (case c8 => k_is)
    (case k8 => k_is)
    (case a9 => k_is)
    (case l9 => k_is)
    (case c9 => k_is)
    (case k9 => k_is)
    (case a10 => k_is)
    (case l10 => k_is)
    (case c10 => k_is)
    (case k10 => k_is)
    (case a11 => k_is)
    (case l11 => k_is)
    (case c11 => k_is)
    (case k11 => k_is)
    (case a12 => k_is)
    (case l12 => k_is)
    (case c12 => k_is)
    (case k12 => k_is)
    (case a13 => k_is)
    (case l13 => k_is)
    (case c13 => k_is)
    (case k13 => k_is)
    (case a14 => k_is)
    (case l14 => k_is)
    (case c14 => k_is)
    (case k14 => k_is)
    (case a15 => k_is)
    (case l15 => k_is)
    (case c15 => k_is)
    (case k15 => k_is)
    (case a16 => k_is)
    (case l16 => k_is)
    (case c16 => k_is)
    (case k16 => k_is)
    (case a17 => k_is)
    (case l17 => k_is)
    (case c17 => k_is)
    (case k17 => k_is)
    (case a18 => k_is)
    (case l18 => k_is)
    (case c18 => k_is)
    (case k18 => k_is)
    (case a19 => k_is)
    (case l19 => k_is)
    (case c19 => k_is)
    (case k19 => k_is)
    (case a20 => k_is)
    (case l20 => k_is)
    (case c20 => k_is)
    (case k20 => k_is)
    (case a21 => k_is)
    (case l21 => k_is)
    (case c21 => k_is)
    (case k21 => k_is)
    (case a22 => k_is)
    (case l22 => k_is)
    (case c22 => k_is)
    (case k22 => k_is)
    (case a23 => k_is)
    (case l23 => k_is)
    (case c23 => k_is)
    (case k23 => k_is)
    (case a24 => k_is)
    (case l24 => k_is)
    (case c24 => k_is)
    (case k24 => k_is)
    (case a25 => k_is)
    (case l25 => k_is)
    (case c25 => k_is)
    (case k25 => k_is)
    (case a26 => k_is)
    (case l26 => k_is)
    (case c26 => k_is)
    (case k26 => k_is)
    (case a27 => k_is)
    (case l27 => k_is)
    (case c27 => k_is)
    (case k27 => k_is)
    (case a28 => k_is)
    (case l28 => k_is)
    (case c28 => k_is)
    (case k28 => k_is)
    (case al => k_is)
    (case ll => k_is)
    (case cl => k_is)
    (case kl => k_is)
    (case z_isinstance => k_is)
    (case z_str => k_is)
    (case z_int => k_is)
    (case z_bool => k_is)
    (case z_len => k_is)
    (case z_all => k_is)
    (case z_list => k_is)
    (case z_tuple => k_is)
    (case z_zip => k_is)
    (case z_range => k_is)
    (case z_enumerate => k_is)
    (case z_max => k_is)
    (case z_min => k_is)
    (case z_reversed => k_is)
    (case z_any => k_is)
    (case e_SPARE_BITS => k_is)
    (case e_MOST_BEATS => k_is)
    (case e_gcd => k_is)
    (case a_CS => k_is)
    (case pgCS => k_is)
    (case hdCS => k_is)
    (case poCS => k_is)
    (case saCS => k_is)
    (case mkCS => k_is)
    (case kpCS => k_is)
    (case ci_CS => first | k_is | exact rfl | kernel_rfl)
    (case noCS_top => k_is)
    (case noCS_bottom => k_is)
    (case noCSorder => k_is)
    (case pIa => first | k_is | exact rfl | kernel_rfl)
    (case pIb => first | k_is | exact rfl | kernel_rfl)
    (case pIc => first | k_is | exact rfl | kernel_rfl)
    (case pId => first | k_is | exact rfl | kernel_rfl)
    (case pIe => first | k_is | exact rfl | kernel_rfl)
    (case pIf => first | k_is | exact rfl | kernel_rfl)
    (case pIg => first | k_is | exact rfl | kernel_rfl)
    (case aI => k_is)
    (case nI => k_is)
    (case lI => k_is)
    (case cI => k_is)
    (case kI => k_is)
    (case tI => k_is)
    (case tD => k_is)
    (case aS0 => k_is)
    (case nS0 => k_is)
    (case lS0 => k_is)
    (case cS0 => k_is)
    (case kS0 => k_is)
    (case aS1 => k_is)
    (case nS1 => k_is)
    (case lS1 => k_is)
    (case cS1 => k_is)
    (case kS1 => k_is)
    (case aS2 => k_is)
    (case nS2 => k_is)
    (case lS2 => k_is)
    (case cS2 => k_is)
    (case kS2 => k_is)
    (case aS3 => k_is)
    (case nS3 => k_is)
    (case lS3 => k_is)
    (case cS3 => k_is)
    (case kS3 => k_is)
    (case aS4 => k_is)
    (case nS4 => k_is)
    (case lS4 => k_is)
    (case cS4 => k_is)
    (case kS4 => k_is)
    (case aS5 => k_is)
    (case nS5 => k_is)
    (case lS5 => k_is)
    (case cS5 => k_is)
    (case kS5 => k_is)
    (case uU => k_is)
    (case uMM => k_is)
    (case uNL => k_is)
    (case hZ => refine' Un.cx0 ?a1 ?a2 ?a3 ?a4 ?a5 ?a6 ?a7 ?a8 ?a9 ?b1 ?b2 ?b3 ?b4; (case a1 => k_is); (case a2 => k_is); (case a3 => k_is); (case a4 => k_is); (case a5 => k_is); (case a6 => k_is); (case a7 => k_is); (case a8 => k_is); (case a9 => k_is); (case b1 => k_is); (case b2 => k_is); (case b3 => k_is); (case b4 => k_is))
    (case noZ_order => k_is)
    (case noZ_value => k_is)
    (case exZ => first | k_is | exact rfl | kernel_rfl)
    (case hN => refine' Un.cx0 ?a1 ?a2 ?a3 ?a4 ?a5 ?a6 ?a7 ?a8 ?a9 ?b1 ?b2 ?b3 ?b4; (case a1 => k_is); (case a2 => k_is); (case a3 => k_is); (case a4 => k_is); (case a5 => k_is); (case a6 => k_is); (case a7 => k_is); (case a8 => k_is); (case a9 => k_is); (case b1 => k_is); (case b2 => k_is); (case b3 => k_is); (case b4 => k_is))
    (case noN_order => k_is)
    (case noN_value => k_is)
    (case exN => first | k_is | exact rfl | kernel_rfl)
    (case moCS => exact rfl)
    (case li_lshift => first | k_is | exact rfl | kernel_rfl)
    (case lb_lshift => first | k_is | exact rfl | kernel_rfl)
    (case li_rshift => first | k_is | exact rfl | kernel_rfl)
    (case lb_rshift => first | k_is | exact rfl | kernel_rfl)
    (case nr_lshift => first | k_is | exact rfl | kernel_rfl)
    (case nr_rshift => first | k_is | exact rfl | kernel_rfl)
    (case rdD => first | k_is | exact rfl | kernel_rfl)
    (case gaD => first | k_is | exact rfl | kernel_rfl)
    (case atD => first | k_is | exact rfl | kernel_rfl)
    (case rcD => first | k_is | exact rfl | kernel_rfl)
    (case lD => k_is)
    (case cD => k_is)
    (case kD => k_is)
