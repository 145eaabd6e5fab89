import PyProof.Rows.All
import Wide.All
import OpenK.AllK
import Wide.FinOn
import KE.KSuper
import HandS.ForMost
import HandS.IsInst
import HandS.Flow
import HandS.Zip
import HandS.Defaults
import HandS.Codes
import HandS.ExcValue
import HandS.ClsMeth
import HandS.Nested
import HandS.MakeKwOnly
import HandS.Star
import HandS.Walk
import HandS.SortKw
import HandS.SortOrd
import HandS.SortRule
import HandS.TupSets
import KE.KDictCopyH
import HandS.Property
import HandS.DictComp
import HandS.Conv
import HandS.More
import HandS.StrMore
import HandS.Text
import KE.GoesMore
import PyProof.EnumFor
import PyProof.WalksMore
import HandS.ExcInit
import HandS.ExcField
import KE.KExcIs
import KE.KExcInit
import HandS.HotCalls
import HandS.Lambda
import HandS.TryOnly
import HandS.TupAny
import HandS.WideBits
import HandS.Gcd
import HandS.Wide
import HandS.Deep
import PyProof.P3Eq
import HandS.RevTup
import HandS.MapObj
import HandS.FStr
import HandS.FStrTup
import HandS.Ends
import HandS.WordsExc
import HandS.DictEq
import HandS.OwnEq
import HandS.Iter
import KE.DataMinMax
import ObjForm.LawKit
import HandS.WordsDict
import HandS.Comp
import HandS.EndTab
import HandS.MakeKw
import KE.KLam
import KE.KNestM
import PySem.Challenge.RW_unopened_k27_forms_told_and_refused
set_option Elab.async false
set_option linter.all false
set_option maxRecDepth 100000
set_option maxHeartbeats 4000000
namespace SupX
open PySem PySem.Spec PyProof.Rows L2 NdefX
/-! a body that is known to be the activation itself: super() is asked there alone -/
structure PEa (X : Cx) (B : List Stmt) (e : Expr) (t : TE) : Prop where
  run : ∀ (pins : List (Addr × Obj)) (s : Shared) (σ : L2.St) (H : Hp) (Q : VK), Inv X pins σ H s → t σ H Q → _root_.PySem.wpAt (model X.prog X.w) X.A (.func B X.env) (eval e X.env) (EP X pins σ Q) X.xe s
structure PSa (X : Cx) (B : List Stmt) (st : Stmt) (t : TS) : Prop where
  run : ∀ (pins : List (Addr × Obj)) (s : Shared) (σ : L2.St) (H : Hp) (D : Ends), Inv X pins σ H s → t D σ H → _root_.PySem.wpAt (model X.prog X.w) X.A (.func B X.env) (exec st X.env) (SP X pins D) X.xe s
structure PSsa (X : Cx) (B : List Stmt) (st : List Stmt) (t : TS) : Prop where
  run : ∀ (pins : List (Addr × Obj)) (s : Shared) (σ : L2.St) (H : Hp) (D : Ends), Inv X pins σ H s → t D σ H → _root_.PySem.wpAt (model X.prog X.w) X.A (.func B X.env) (execs st X.env) (SP X pins D) X.xe s
section
variable {X : Cx} {B : List Stmt} {e : Expr} {te : TE} {st : Stmt} {rest : List Stmt} {t u : TS} {pos : Pos}
theorem PE.at_ (h : PE X e te) : PEa X B e te := ⟨fun pins s σ H Q I q => wpAt_of_wpAny (h.run pins s σ H Q I q)⟩
theorem PS.at_ (h : PS X st t) : PSa X B st t := ⟨fun pins s σ H D I q => wpAt_of_wpAny (h.run pins s σ H D I q)⟩
theorem PSs.at_ (h : PSs X rest t) : PSsa X B rest t := ⟨fun pins s σ H D I q => wpAt_of_wpAny (h.run pins s σ H D I q)⟩
end

/-! ### the rule for a def that closes over __class__ -/
abbrev clsCells (cc : Addr) : List (Str × Addr) := [("__class__", cc)]
section
variable {CX : CXT} {P : Program} {w : World} {K : PySem.W.Frag} {mg : Str → Option Value} {base : Heap} {k : Nat} {f cc cda D : Addr} {name qual : Str} {params : Arguments} {body : List Stmt} {scope : Scope} {dV kV doc pm ct oc : Value} {an od : Option Addr}
    {osl : Array (Option Value)} {N ps : List Str} {sp : Sp}
theorem fn_ofC (lk : K.lookup f = some ⟨oc, od, .func (PySem.W.fnX name qual params body scope (clsCells cc) dV kV doc pm an (.ref cda) ct), osl⟩) (hcd : PySem.W.codeIn K (.ref cda) qual = true)
    (hcc : ∃ (o : Obj), K.lookup cc = some o ∧ o.data = .cell (some (.ref D))) (S : NScope N ps ["__class__"] scope) (len : ∀ vs H Q E, sp vs H Q E → vs.length = ps.length)
    (hbody : ∀ (A : Around) (outer : List Env) (s : Shared) (H : Hp) (vs : List V) (Q : VK) (E : XK), Room k (A.deeper (envF ⟨name, qual, params, body, scope, clsCells cc, cda⟩ f s.heap.objs.size)) → sp vs H Q E →
      ∃ t, PSsa (ncx CX P w K mg base N ⟨name, qual, params, body, scope, clsCells cc, cda⟩ f A outer s H E) body body t ∧ t { nx := fun _ H' => Q .non H', rt := Q } (startF N vs [none]) H) :
    FnOk P w K mg base CX (k + 1) f (PySem.W.fnX name qual params body scope (clsCells cc) dV kV doc pm an (.ref cda) ct) ps sp := by
  refine ⟨len, fun A outer s H args us vs Q E hr e0 hb r hsp => ?_⟩
  have hl := len _ _ _ _ hsp
  have KX : K.In s.heap := e0.mod.kin.keeps fun b o e => (e0.bs b o e).1
  have lim : s.heap.NoLimit := e0.mod.nolimit.keeps fun b o e => (e0.bs b o e).1
  refine codeAny_call_function hr.depth (KX _ _ lk) rfl S.co S.gen rfl (PySem.W.codeRec_of KX hcd) (hb _ _ _ _ ?_)
  refine wpAny_newFunctionEnv S.nocell (fun ⟨n, _⟩ hy => S.par n (List.of_mem_zip hy).1) (fun h₁ hns hsb => ⟨lim.fresh _ hsb, ?_⟩) S.kind
  show codeAny _ _ (.func body (envF ⟨name, qual, params, body, scope, clsCells cc, cda⟩ f s.heap.objs.size)) _ _
  refine ks_codeAny_funcAt ?_
  have kp : ∀ b o, s.heap.get? b = some o → h₁.get? b = some o := fun b o e => hsb.extBut b o (Nat.ne_of_lt (Heap.lt_size e)) (Heap.get?_push_of_some _ e)
  obtain ⟨t, ht, hq⟩ := hbody A outer s H vs Q E (hr.deeper _) hsp
  have C : CellsAt (clsCells cc) ["__class__"] [none] s.heap H := by
    obtain ⟨o, lo, od⟩ := hcc
    have hin := e0.mod.kin
    have hg : base.get? cc = some o := hin _ _ lo
    obtain ⟨b1, b2⟩ := e0.bs cc o hg
    have hlook : ∀ y c, (clsCells cc).lookup y = some c → c = cc ∧ y = "__class__" := fun y c e => by
      unfold clsCells at e
      rw [List.lookup_cons] at e
      split at e
      · rename_i h
        cases e
        exact ⟨rfl, eq_of_beq h⟩
      · cases e
    refine ⟨rfl, fun y c e => ?_, fun x y c e1 e2 => ?_, fun i y e => ?_⟩
    · obtain ⟨rfl, _⟩ := hlook y c e
      exact ⟨b2, _, o, b1, od⟩
    · rw [(hlook x c e1).2, (hlook y c e2).2]
    · match i, e with
      | 0, e =>
        cases e
        exact ⟨cc, rfl, fun v z => by cases z⟩
  have I : Inv (ncx CX P w K mg base N ⟨name, qual, params, body, scope, clsCells cc, cda⟩ f A outer s H E) [] (startF N vs [none]) H { s with heap := h₁, toks := s.toks + (ps.zip us).length } := inv_startN S hr.hd e0 hl r C hns kp
  refine ks_wpAt_mono (ht.run [] _ (startF N vs [none]) H _ I hq) (fun fl s' hs => ?_) fun e s' hs => hs
  have fin : ∀ {σ' : L2.St} {H' : Hp} {v : V} {u : Value}, Inv (ncx CX P w K mg base N ⟨name, qual, params, body, scope, clsCells cc, cda⟩ f A outer s H E) [] σ' H' s' → L2.RelV v u → Q v H' → CE outer P w H s Q u s' :=
    fun {σ' H' v u} J rv q => ⟨v, H', J.os, J.bare, J.base, J.hok, rv, q⟩
  cases fl with
  | ret u =>
    obtain ⟨v, σ', H', J, rv, q⟩ := hs
    exact fin J rv q
  | next =>
    obtain ⟨σ', H', J, q⟩ := hs
    exact fin (v := V.non) (u := Value.none) J rfl q
  | brk =>
    obtain ⟨_, _, _, q⟩ := hs
    exact False.elim q
  | cont =>
    obtain ⟨_, _, _, q⟩ := hs
    exact False.elim q
end

/-! ### super().m(e, .., k = v, ..) -/
/-- what of the text and of the context super() asks -/
structure SupC (X : Cx) (f cda cc D : Addr) (sf : Str) : Prop where
  hks : X.env.kindOf "super" = some .globalImplicit
  hkc : X.env.kindOf "__class__" = some .free
  fu : X.env.func = some f
  co : X.env.code = .ref cda
  fdd : ∃ (o : Obj) (fd : FuncData) (ar : Arg), X.K.lookup f = some o ∧ o.data = .func fd ∧ (fd.params.posonlyargs ++ fd.params.args).head? = some ar ∧ ar.arg = sf
  nm : X.N[0]? = some sf
  ka : X.env.kindOf sf = some .local
  code : ∃ (o : Obj) (vs : Array Value) (file : Str) (tf : Tok), X.K.lookup cda = some o ∧ o.data = .fields vs ∧ vs[2]? = some (.str file tf) ∧ (X.prog.main.file == file) = true
  cell : ∃ (o : Obj), X.K.lookup cc = some o ∧ o.data = .cell (some (.ref D))
  lk : X.env.cells.lookup ("__class__" : Str) = some cc
  cls : ∃ cd, PySem.W.clsIn X.K D = some cd
  top : (X.prog.main.scope.names.lookup ("super" : Str)).isSome = false
  ms : X.mg "super" = none
  any_ : PySem.W.nsIn X.K cStatics "thirdparty.any" = some none
/-- the method m above D, of an instance of C -/
structure SupM (K : PySem.W.Frag) (C D : Addr) (m : Str) (g : Addr) : Prop where
  sub : PySem.W.mroIn K C (.ref D) = some true
  at_ : PySem.W.ks_superIn K C D m = some (some (.ref g))
  ty : PySem.W.typeIn K (.ref g) = some (.type "function")
  fi : PySem.W.fnIn K g = true
section
variable {X : Cx} {pins : List (Addr × Obj)} {σ : L2.St} {H : Hp} {s : Shared} {a C dx : Addr} {fs : List (Str × V)} {f cda cc D : Addr} {sf : Str} {B : List Stmt}
end
section
variable {X : Cx} {CX : CXT} {k n : Nat} {C D f g cda cc : Addr} {sf m : Str} {fd : FuncData} {ps ks : List Str} {sp : Sp} {E : XK} {B : List Stmt} {p0 p1 apos pos : Pos} {e : Expr} {es : List Expr} {kws : List Keyword} {t tk : TA} {gg : List Value → List Value → List Value} {gV : List V → List V → List V} {pl : Sem Bool}
end
/-! ### o.m(k = v, ..), f(k = v, ..) where f is an instance -/
/-- o.m(k = v, ..) -/
def tMethKw (C : Addr) (m : Str) (n : Nat) (sp : Sp) (gV : List V → List V → List V) (E : XK) (ta : TE) (tk : TA) : TE := fun σ H Q => ta σ H fun x H1 => ∃ a dx fs, x = .ref a ∧ H1 a = some (.ins C dx fs) ∧ fs.lookup m = none ∧ tk σ H1 fun zs H2 => zs.length = n ∧ sp (gV [.ref a] zs) H2 Q E
section
variable {X : Cx} {CX : CXT} {k : Nat} {C f : Addr} {m : Str} {fd : FuncData} {ps ks : List Str} {sp : Sp} {E : XK} {o fe : Expr} {kws : List Keyword} {ta tf : TE} {tk : TA} {apos pos : Pos} {pl : Sem Bool} {gg : List Value → List Value → List Value} {gV : List V → List V → List V}
theorem pe_methKw (he : PE X o ta) (c : Cls X.K C) (hm : Meth X.K C m f) (F : FnOk X.prog X.w X.K X.mg X.base CX k f fd ps sp) (hr : Room k X.A) (hb : KBn X.K fd ps 1 ks gg gV) (hx : Passes CX X E) (hkw : PK X kws tk)
    (hall : (backToKw pos (keywordEach kws X.env)).all (·.1.isSome) = true := by rfl) (hks : (backToKw pos (keywordEach kws X.env)).filterMap (·.1) = ks := by rfl)
    (hpl : ((backTo pos (starEach [] X.env)).any (·.1) || (backToKw pos (keywordEach kws X.env)).any (·.1.isNone)) = false := by rfl)
    (ht : eval (.Call (.Attribute o m apos) [] kws pos) X.env = (do
      let ov ← eval o X.env
      standAt apos.atName
      let (f, first) ← holding [ov] (getMethod ov m pl)
      callWith pos f first (backTo pos (starEach [] X.env)) (backToKw pos (keywordEach kws X.env))) := by rfl) :
    PE X (.Call (.Attribute o m apos) [] kws pos) (tMethKw C m ks.length sp gV E ta tk) := by
  refine ⟨fun pins s σ H Q I h => ?_⟩
  refine PySem.W.methodCall_KW (pl := pl) (thn (he.run pins s σ H _ I h) fun u s1 ⟨x, H1, I1, rx, a, dx, fs, ex, ea, l, q⟩ => ?_) ht
  subst ex
  obtain rfl : u = Value.ref a := rx
  refine getmeth_ok I1 ea c hm l ?_
  refine PySem.W.callWith_KW0 (h₀ := X.base) I.ok.mod.kin hm.kp hall ?_ hpl
  refine thn (hkw.run pos pins s1 σ H1 _ I1 q) fun ws s2 ⟨zs, H2, I2, rz, l1, q2⟩ => ⟨I2.kIn, ?_⟩
  rw [hks]
  exact run_fnN (us := [.ref a]) (vs := [.ref a]) F hr hb hx I2 (.cons rfl .nil) rz rfl l1 q2
end
/-! ### defs that close over __class__, with defaults -/
/-- a def that closes over __class__ (the class at D), as it stands behind the top -/
structure FunC (K : PySem.W.Frag) (P : Program) (x qual : Str) (params : Arguments) (body : List Stmt) (scope : Scope) (dvs : List V) (kws : List (Str × V)) (D f : Addr) (fd : FuncData) : Prop where
  ex : ∃ (cc cda : Addr) (oc : Value) (od : Option Addr) (dV kV doc pm : Value) (an : Option Addr) (ct : Value) (osl : Array (Option Value)),
    fd = PySem.W.fnX x qual params body scope (clsCells cc) dV kV doc pm an (.ref cda) ct ∧ K.lookup f = some ⟨oc, od, .func fd, osl⟩ ∧ PySem.W.codeIn K (.ref cda) qual = true ∧
    (∃ (o : Obj) (vs : Array Value) (file : Str) (tf : Tok), K.lookup cda = some o ∧ o.data = .fields vs ∧ vs[2]? = some (.str file tf) ∧ (P.main.file == file) = true) ∧
    (∃ (o : Obj), K.lookup cc = some o ∧ o.data = .cell (some (.ref D))) ∧ DflV K dV dvs ∧ KwdV K kV kws
  kp : PySem.W.keepIn K (.ref f) = true
  cls : ∃ cd, PySem.W.clsIn K D = some cd
  any_ : PySem.W.nsIn K cStatics "thirdparty.any" = some none
  top : (P.main.scope.names.lookup ("super" : Str)).isSome = false
section
variable {CX : CXT} {P : Program} {w : World} {K : PySem.W.Frag} {mg : Str → Option Value} {base : Heap} {k : Nat} {f D : Addr} {fd : FuncData} {x qual : Str} {params : Arguments} {body : List Stmt} {scope : Scope} {dvs : List V} {kws : List (Str × V)} {N ps : List Str} {sp : Sp}
theorem FunC.ok (F : FunC K P x qual params body scope dvs kws D f fd) (S : NScope N ps ["__class__"] scope) (ms : mg "super" = none) (s1 : scope.names.lookup ("super" : Str) = some .globalImplicit) (s2 : scope.names.lookup ("__class__" : Str) = some .free)
    {ar : Arg} (hp : (params.posonlyargs ++ params.args).head? = some ar) (hN : N[0]? = some ar.arg) (hl : scope.names.lookup ar.arg = some .local) (len : ∀ vs H Q E, sp vs H Q E → vs.length = ps.length)
    (hbody : ∀ (cc cda : Addr) (A : Around) (outer : List Env) (s : Shared) (H : Hp) (vs : List V) (Q : VK) (E : XK), Room k (A.deeper (envF ⟨x, qual, params, body, scope, clsCells cc, cda⟩ f s.heap.objs.size)) →
      SupC (ncx CX P w K mg base N ⟨x, qual, params, body, scope, clsCells cc, cda⟩ f A outer s H E) f cda cc D ar.arg → sp vs H Q E →
      ∃ t, PSsa (ncx CX P w K mg base N ⟨x, qual, params, body, scope, clsCells cc, cda⟩ f A outer s H E) body body t ∧ t { nx := fun _ H' => Q .non H', rt := Q } (startF N vs [none]) H) :
    FnOk P w K mg base CX (k + 1) f fd ps sp := by
  obtain ⟨cc, cda, oc, od, dV, kV, doc, pm, an, ct, osl, rfl, lk, hcd, hcode, hcell, _, _⟩ := F.ex
  refine fn_ofC (D := D) lk hcd hcell S len fun A outer s H vs Q E hr hsp => ?_
  exact hbody cc cda A outer s H vs Q E hr ⟨s1, s2, rfl, rfl, ⟨_, _, ar, lk, rfl, hp, rfl⟩, hN, hl, hcode, hcell, rfl, F.cls, F.top, ms, F.any_⟩ hsp
theorem FunC.binds (F : FunC K P x qual params body scope dvs kws D f fd) (n j : Nat) (hd : dvs ≠ []) (hn : n + ((dvs.length - j) + kws.length) = ps.length)
    (h : ∀ (cl : List (Str × Addr)) (T D : Addr) (doc pm : Value) (an : Option Addr) (cdv ct : Value) (us its ks : List Value), us.length = n → its.length = dvs.length → ks.length = kws.length →
      ∃ k, bindArgs (PySem.W.fnX x qual params body scope cl (.ref T) (.ref D) doc pm an cdv ct) ⟨us, []⟩ = seqItems? (.ref T) >>= k ∧ KwChain D ((kws.map (·.1)).zip ks) (k (some its.toArray)) (ps.zip (us ++ (its.drop j ++ ks))))
    (hk : kws ≠ []) : ∃ ds, Vals (dvs.drop j ++ kws.map (·.2)) ds ∧ Binds K fd ps ds := by
  obtain ⟨cc, cda, oc, od, dV, kV, doc, pm, an, ct, osl, rfl, lk, hcd, hcode, hcell, hD, hK⟩ := F.ex
  rcases hD with ⟨e, _⟩ | ⟨_, T, o, its, m, rfl, lT, oT, rT⟩
  · exact absurd e hd
  · rcases hK with e | ⟨D, rfl, hq⟩
    · exact absurd e hk
    · obtain ⟨ks, hl, rk, hks⟩ := kwd_vals hq
      refine ⟨its.drop j ++ ks, (rT.drop j).append rk, fun s us X hlen => ?_⟩
      have l1 : its.length = dvs.length := rT.length.symm
      have l2 : us.length = n := by
        rw [List.length_append, List.length_append, List.length_drop, l1, hl] at hlen
        omega
      obtain ⟨k, e1, e2⟩ := h _ T D doc pm an (.ref cda) ct us its ks l2 l1 hl
      refine BindsTo.of_looks fun M => ?_
      rw [e1]
      exact looks_items X lT oT (KwChain.looks X hks e2)
theorem FunC.kbn (F : FunC K P x qual params body scope [] kws D f fd) (n : Nat) (ks : List Str) (g : List Value → List Value → List Value) (gV : List V → List V → List V)
    (hrel : ∀ {vs : List V} {us : List Value} {zs : List V} {ws : List Value}, Vals vs us → Vals zs ws → Vals (gV vs zs) (g us ws))
    (h : ∀ (cl : List (Str × Addr)) (kV doc pm : Value) (an : Option Addr) (cdv ct : Value) (us ws : List Value), us.length = n → ws.length = ks.length → bindArgs (PySem.W.fnX x qual params body scope cl .none kV doc pm an cdv ct) ⟨us, ks.zip ws⟩ = pure (ps.zip (g us ws))) : KBn K fd ps n ks g gV := by
  obtain ⟨cc, cda, oc, od, dV, kV, doc, pm, an, ct, osl, rfl, lk, hcd, hcode, hcell, hD, hK⟩ := F.ex
  rcases hD with ⟨_, rfl⟩ | ⟨e, _⟩
  · exact ⟨fun s us ws _ l1 l2 => BindsTo.of_eq (h _ kV doc pm an (.ref cda) ct us ws l1 l2), hrel⟩
  · exact absurd rfl e
end
/-! ### methods and calls of an instance whose class is one of several -/
/-- what each class of the family has: the def at g C keeps sp C -/
structure Fam1 (X : Cx) (CX : CXT) (k : Nat) (R : Addr → Prop) (m : Str) (ps : List Str) (sp : Addr → Sp) (C g : Addr) (fd : FuncData) : Prop where
  cl : Cls X.K C
  m : Meth X.K C m g
  ok : FnOk X.prog X.w X.K X.mg X.base CX k g fd ps (sp C)
  b : Binds X.K fd ps []
section
variable {X : Cx} {CX : CXT} {k : Nat} {R : Addr → Prop} {m : Str} {ps ks : List Str} {sp : Addr → Sp} {E : XK} {o fe e : Expr} {es : List Expr} {kws : List Keyword} {ta tf : TE} {t tk : TA} {apos pos : Pos} {pl : Sem Bool} {gV : List V → List V → List V}
end
end SupX
/-! ### tuples of whole numbers of any lengths, in order -/
namespace SrtX
open PySem PyProof.Rows Srt SrtO
/-- the value is a tuple of these whole numbers -/
def IsTI (h : Heap) (v : Value) (ns : List Int) : Prop := ∃ (a : Addr) (o : Obj) (its : List Value) (n : Nat), v = .ref a ∧ h.get? a = some o ∧ o.cls = .type "tuple" ∧ o.data = .seq its.toArray n ∧ Paired (fun (i : Int) (u : Value) => ∃ t, u = .int i t) ns its
theorem IsTI.keeps {h h' : Heap} {v : Value} {ns : List Int} (x : IsTI h v ns) (k : ∀ b o, h.get? b = some o → o.cls = .type "tuple" → h'.get? b = some o) : IsTI h' v ns := by
  obtain ⟨a, o, its, n, e, ho, hc, hd, p⟩ := x
  exact ⟨a, o, its, n, e, k _ _ ho hc, hc, hd, p⟩
section
variable {prog : Program} {w : World} {A : Around} {s : Shared}
end
end SrtX
/-! ### dict(d) and sorted(d) of dicts with tuple keys -/
namespace SupX
open PySem PySem.Spec PyProof.Rows L2
section
variable {X : Cx}
end
end SupX
namespace SupX
open PySem PySem.Spec PyProof.Rows L2
section
variable {X : Cx}
end
end SupX
namespace XV
open PySem PySem.W PySem.Calls PySem.Builtin PySem.Builtin.ObjectAttr PyProof.Rows PySem.HandSPX
/-- own classes, then the base's mro -/
def refsT (tail : List Value) : List Value → Bool
  | .ref _ :: r => refsT tail r
  | l => l == tail
theorem refsT_cases {tail : List Value} : ∀ l : List Value, refsT tail l = true → (∃ c r, l = .ref c :: r ∧ refsT tail r = true) ∨ l = tail
  | [], e => .inr (beq_iff_eq.mp e)
  | .ref c :: r, e => .inl ⟨c, r, rfl, e⟩
  | .none :: _, e => .inr (beq_iff_eq.mp e)
  | .ellipsis :: _, e => .inr (beq_iff_eq.mp e)
  | .notImplemented :: _, e => .inr (beq_iff_eq.mp e)
  | .bool _ :: _, e => .inr (beq_iff_eq.mp e)
  | .int _ _ :: _, e => .inr (beq_iff_eq.mp e)
  | .float _ _ :: _, e => .inr (beq_iff_eq.mp e)
  | .str _ _ :: _, e => .inr (beq_iff_eq.mp e)
  | .bytes _ _ :: _, e => .inr (beq_iff_eq.mp e)
  | .type _ :: _, e => .inr (beq_iff_eq.mp e)
  | .builtin _ :: _, e => .inr (beq_iff_eq.mp e)
/-- what the base's mro must keep -/
structure TailOk (tail : List Value) : Prop where
  pass : ∀ self, refuseLoop self "__setattr__" tail = pure ()
  obj : tail.contains (.type "object") = true
theorem TailOk.ne {tail : List Value} (T : TailOk tail) : tail ≠ [] := fun e => by
  have h := T.obj
  rw [e] at h
  cases h
theorem refsT_pass {tail : List Value} (T : TailOk tail) (self : Value) : ∀ l : List Value, refsT tail l = true → refuseLoop self "__setattr__" l = pure () := by
  intro l
  induction l with
  | nil => intro e; exact absurd (beq_iff_eq.mp e).symm T.ne
  | cons a r ih =>
    intro e
    rcases refsT_cases (a :: r) e with ⟨c, r', q, h⟩ | q
    · obtain ⟨rfl, rfl⟩ := List.cons.inj q
      rw [refuseLoop_ref]; exact ih h
    · rw [q]; exact T.pass self
theorem refsT_contains {tail : List Value} (T : TailOk tail) (X : String) : ∀ l : List Value, refsT tail l = true → l.contains (.type X) = tail.contains (.type X) := by
  intro l
  induction l with
  | nil => intro e; exact absurd (beq_iff_eq.mp e).symm T.ne
  | cons a r ih =>
    intro e
    rcases refsT_cases (a :: r) e with ⟨c, r', q, h⟩ | q
    · obtain ⟨rfl, rfl⟩ := List.cons.inj q
      rw [List.contains_cons, ih h]; rfl
    · rw [q]
theorem refsT_ne {tail l : List Value} (T : TailOk tail) (e : refsT tail l = true) : l.isEmpty = false := by
  cases l with
  | nil => exact absurd (beq_iff_eq.mp e).symm T.ne
  | cons _ _ => rfl
abbrev tailVE : List Value := [.type "ValueError", .type "Exception", .type "BaseException", .type "object"]
theorem tailVE_ok : TailOk tailVE := ⟨F.store_ValueError.passes, by decide +kernel⟩
section
variable {prog : Program} {w : World} {A : Around} {E : Value → Shared → Prop} {R : Result → Shared → Prop} {hp : Heap} {g : Array GenState} {d : Drawn} {t : Nat} {os : OsState}
theorem exc_osaT {K : W.Frag} {name : Str} {tk : Tok} {v : Value} {x C : Addr} {fv : Array Value} {cd : ClassData} {tail : List Value} (T : TailOk tail)
    (X : K.In hp) (hx : hp.get? x = some { cls := .ref C, data := .fields fv }) (hcd : W.clsIn K C = some cd) (hm : refsT tail cd.mro = true) (hh : cd.hasDict = true) (ha : W.findIn K (.ref C) name = some none)
    (hq : ∀ h' tk' dx, (∀ b o, b ≠ x → hp.get? b = some o → h'.get? b = some o) → hp.objs.size ≤ dx → dx ≠ x → h'.get? x = some { cls := .ref C, dict := some dx, data := .fields fv } →
      h'.Ns1 dx (fun y => if y = name then some v else none) → R (.ok (.ret .none)) ⟨h', g, d, tk', os⟩) :
    codeAny (model prog w) A (.call (.builtin "object.__setattr__") ⟨[.ref x, .str name tk, v], []⟩) R ⟨hp, g, d, t, os⟩ := by
  have I : W.InstAt hp x { cls := .ref C, data := .fields fv } C none := ⟨hx, rfl, rfl, trivial⟩
  have SF := F.store_object
  have ne := refsT_ne T hm
  have hob : cd.mro.contains (.type "object") = true := (refsT_contains T "object" _ hm).trans T.obj
  have hxs : x ≠ hp.objs.size := Nat.ne_of_lt (Heap.lt_size hx)
  have sub : W.Looks (model prog w) hp (isInstance (.ref x) (.type "object")) true := I.type.andThen (W.looks_mroIn X (by unfold W.mroIn; rw [hcd, Option.bind_some, if_neg (by rw [ne]; decide), hob]))
  refine codeAny_call_builtin SF.slot.plain SF.entry (@W.check_slot (model prog w) _ _ ⟨hp, g, d, t, os⟩ "object.__setattr__" "object" "__setattr__" (.ref x) [.str name tk, v] [] _ SF.kind SF.split sub (SF.args (.ref x) (.str name tk) v) ?_)
  have hmr : W.Looks (model prog w) hp (mroOf (.ref C)) cd.mro := (W.looks_clsIn X hcd).andThen .now
  have L3 : W.Looks (model prog w) hp (storeTaker? none) none := .now
  have hcls : W.Looks (model prog w) hp (classData C) cd := W.looks_clsIn X hcd
  rw [W.osa_eq, refuse_eq]
  refine wpAny_bind (wpAny_bind (I.type.at (wpAny_bind (hmr.at ?_))))
  rw [refsT_pass T _ _ hm]
  refine wpAny_pure (wpAny_bind (I.type.at (wpAny_bind ((W.looks_findIn X ha).at (wpAny_bind (L3.at ?_))))))
  show wpAny _ _ (storeInOwnDict (.ref x) (.ref C) (.str name tk) name v false) _ _ _
  obtain ⟨nm, bs, mro, ns, qn, hd, sn, sb, ab, col, del⟩ := cd
  dsimp only at hh
  subst hh
  unfold storeInOwnDict ownDictForStores
  repeat (first | with_reducible refine store_in_new ?_ ?_ | with_reducible refine wpAny_loadPart_at hx ?_ | with_reducible refine hcls.at ?_ | wp_step)
  · exact ⟨_, #[], _, (Heap.get?_update_ne _ _ _ _ hxs.symm).trans (Heap.get?_push_at rfl rfl), rfl, fun e he => absurd he (by simp), fun _ => rfl⟩
  · intro h' tk' hn' hs
    have hx₁ : (hp.push { cls := .type "dict", data := .dict #[] }).get? x = some { cls := .ref C, data := .fields fv } := Heap.get?_push_of_some _ hx
    refine hq h' tk' hp.objs.size (fun b o hb ho => ?_) (Nat.le_refl _) hxs.symm ?_ hn'
    · exact (hs.2 b (Nat.ne_of_lt (Heap.lt_size ho))).trans ((Heap.get?_update_ne _ _ _ _ hb).trans (Heap.get?_push_of_some _ ho))
    · exact (hs.2 x hxs).trans (Heap.get?_update_self _ hx₁ rfl)
theorem osa_oldT {K : W.Frag} {name : Str} {tk : Tok} {v : Value} {x C dx : Addr} {fv : Array Value} {cd : ClassData} {m0 : Str → Option Value} {nl : List Str} {tail : List Value} (T : TailOk tail)
    (X : K.In hp) (hx : hp.get? x = some { cls := .ref C, dict := some dx, data := .fields fv }) (hns : hp.Ns1 dx m0) (hw : Within m0 nl) (hz : nl.length ≤ 1000) (hcd : W.clsIn K C = some cd) (hm : refsT tail cd.mro = true) (hh : cd.hasDict = true)
    (ha : W.findIn K (.ref C) name = some none)
    (hq : ∀ h' tk', (∀ b o, b ≠ dx → hp.get? b = some o → h'.get? b = some o) → h'.Ns1 dx (fun y => if y = name then some v else m0 y) → R (.ok (.ret .none)) ⟨h', g, d, tk', os⟩) :
    codeAny (model prog w) A (.call (.builtin "object.__setattr__") ⟨[.ref x, .str name tk, v], []⟩) R ⟨hp, g, d, t, os⟩ := by
  obtain ⟨oD, esD, epD, hoD, hdD, _⟩ := hns.count hw
  have I : W.InstAt hp x { cls := .ref C, dict := some dx, data := .fields fv } C (some oD) := ⟨hx, rfl, rfl, hoD⟩
  have SF := F.store_object
  have ne := refsT_ne T hm
  have hob : cd.mro.contains (.type "object") = true := (refsT_contains T "object" _ hm).trans T.obj
  have sub : W.Looks (model prog w) hp (isInstance (.ref x) (.type "object")) true := I.type.andThen (W.looks_mroIn X (by unfold W.mroIn; rw [hcd, Option.bind_some, if_neg (by rw [ne]; decide), hob]))
  refine codeAny_call_builtin SF.slot.plain SF.entry (@W.check_slot (model prog w) _ _ ⟨hp, g, d, t, os⟩ "object.__setattr__" "object" "__setattr__" (.ref x) [.str name tk, v] [] _ SF.kind SF.split sub (SF.args (.ref x) (.str name tk) v) ?_)
  have hmr : W.Looks (model prog w) hp (mroOf (.ref C)) cd.mro := (W.looks_clsIn X hcd).andThen .now
  have L3 : W.Looks (model prog w) hp (storeTaker? none) none := .now
  have hcls : W.Looks (model prog w) hp (classData C) cd := W.looks_clsIn X hcd
  rw [W.osa_eq, refuse_eq]
  refine wpAny_bind (wpAny_bind (I.type.at (wpAny_bind (hmr.at ?_))))
  rw [refsT_pass T _ _ hm]
  refine wpAny_pure (wpAny_bind (I.type.at (wpAny_bind ((W.looks_findIn X ha).at (wpAny_bind (L3.at ?_))))))
  show wpAny _ _ (storeInOwnDict (.ref x) (.ref C) (.str name tk) name v false) _ _ _
  obtain ⟨nm, bs, mro, ns, qn, hd, sn, sb, ab, col, del⟩ := cd
  dsimp only at hh
  subst hh
  unfold storeInOwnDict ownDictForStores
  repeat (first | with_reducible refine PySem.OEX.store_in_old hns hw hz ?_ | with_reducible refine wpAny_loadPart_at hx ?_ | with_reducible refine hcls.at ?_ | wp_step)
  intro h' tk' hn' hs
  exact hq h' tk' (fun b o hb ho => (hs.2 b hb).trans ho) hn'
end
end XV
namespace L2
open PySem PySem.Spec PyProof.Rows XV
/-- what the written part says of an own exception class with an own __init__ -/
structure OexG (K : PySem.W.Frag) (C : Addr) : Prop where
  cls : ∃ B nid iid tail nm q N bs bm sn sub ab col dd k0 k1 k2 k3 k5, ExcBaseFacts B nid iid tail ∧ TailOk tail ∧ K.lookup C = some (excClassObj nm q C N bs bm true sn sub ab col dd k0 k1 k2 k3 k5 nid) ∧ refsT tail bm = true
  sa : PySem.W.findIn K (.ref C) "__setattr__" = some (some (.builtin "object.__setattr__"))
  exC : PySem.W.subIn K (.ref C) (.type "BaseException") = some true
  tyC : PySem.W.typeIn K (.ref C) = some (.type "type")
  kC : PySem.W.keepIn K (.ref C) = true
section
variable {X : Cx} {pins : List (Addr × Obj)} {σ : St} {H : Hp} {s : Shared} {a C dx : Addr} {f : Str} {y : V} {u : Value} {fs : List (Str × V)} {Q : Unit → Shared → Prop} {E : Value → Shared → Prop} {A : Around}
theorem ostG_new (T : OexG X.K C) (I : Inv X pins σ H s) (e : H a = some (exo a C none)) (hno : PySem.W.findIn X.K (.ref C) f = some none) (ry : RelV y u)
    (h : ∀ dx s', H dx = none → dx ≠ a → Inv X pins σ (upd (upd H dx (exd dx [(f, y)])) a (exo a C (some dx))) s' → Q () s') : wpAny (model X.prog X.w) A (setAttr (.ref a) f u) Q E s := by
  obtain ⟨B, nid, iid, tail, nm, q, N, bs, bm, sn, sub, ab, col, dd, k0, k1, k2, k3, k5, _, TO, hC, hbm⟩ := T.cls
  have hcl : PySem.W.clsIn X.K C = some { name := nm, bases := bs, mro := .ref C :: bm, ns := N, qualname := q, hasDict := true, slotNames := sn, subclasses := sub, abstract := ab, collection := col, hasDel := false } := by unfold PySem.W.clsIn; rw [hC] <;> rfl
  obtain ⟨t1, ho⟩ := exo_at I.hok e
  obtain ⟨hp, g, d, t, os⟩ := s
  refine PySem.W.set_plain I.kIn (ox := { cls := .ref C, dict := none, data := .fields #[.ref t1, .none, .none, .none, .bool false, .none] }) (od := none) ⟨ho, rfl, rfl, trivial⟩ T.sa ?_
  refine exc_osaT TO I.kIn ho hcl (show refsT tail (.ref C :: bm) = true from hbm) rfl hno (fun h' tk' dx k dn dne hx hn => ?_)
  have hnd : H dx = none := I.hok.fresh dn
  have nd : ∀ {b : Addr} {o : Obj}, hp.get? b = some o → b ≠ dx := fun {b o} q => Nat.ne_of_lt (Nat.lt_of_lt_of_le (Heap.lt_size q) dn)
  have na : ∀ {b : Addr}, H b = none → b ≠ a := fun {b} n z => by
    rw [z, e] at n
    cases n
  have Un1 : Un X.fs [] H (upd (upd H dx (exd dx [(f, y)])) a (exo a C (some dx))) hp h' := {
    keep := fun b o q n _ _ => k b o (na n) q
    slot := fun b o q n _ _ => ⟨o.slots, k b o (na n) q⟩
    free := fun b o q n _ => by rw [upd_ne (na n), upd_ne (nd q)]; exact n
    there := fun b o q _ => by
      by_cases hb : b = a
      · exact ⟨_, by rw [hb]; exact hx⟩
      · exact ⟨o, k b o hb q⟩
    tups := fun b xs q => by rw [upd_ne (at_ne e q exo_tup), upd_ne (ne_of_none q hnd)]; exact q
    frzs := fun b o v q => by rw [upd_ne (at_ne e q exo_frz), upd_ne (ne_of_none q hnd)]; exact q
    tbls := fun b ps q => ⟨#[], by rw [upd_ne (at_ne e q exo_tbl), upd_ne (ne_of_none q hnd), q]; simp⟩ }
  refine h dx _ hnd dne (I.un (t' := tk') Un1 fun b o q => ?_)
  by_cases hb : b = a
  · subst hb
    rw [upd_same] at q
    cases q
    exact exo_ok hx
  · rw [upd_ne hb] at q
    by_cases hd : b = dx
    · subst hd
      rw [upd_same] at q
      cases q
      exact exd_ok hn (relO_put (fs := []) ry fun g => True.intro)
    · rw [upd_ne hd] at q
      exact (I.hok b o q).stay (fun c v hc z => k c v (by
          rcases hc with hc | hc
          · rw [hc]
            exact hb
          · exact at_ne e hc exo_own) z)
        (fun c hc => by rw [upd_ne (at_ne e hc exo_own), upd_ne (ne_of_none hc hnd)]; exact hc) (fun c xs hc => by rw [upd_ne (at_ne e hc exo_tup), upd_ne (ne_of_none hc hnd)]; exact hc)
theorem ostG_old (T : OexG X.K C) (I : Inv X pins σ H s) (e : H a = some (exo a C (some dx))) (ed : H dx = some (exd dx fs)) (hl : fs.length ≤ 900) (hno : PySem.W.findIn X.K (.ref C) f = some none) (ry : RelV y u)
    (h : ∀ s', Inv X pins σ (upd H dx (exd dx ((f, y) :: fs))) s' → Q () s') : wpAny (model X.prog X.w) A (setAttr (.ref a) f u) Q E s := by
  obtain ⟨B, nid, iid, tail, nm, q, N, bs, bm, sn, sub, ab, col, dd, k0, k1, k2, k3, k5, _, TO, hC, hbm⟩ := T.cls
  have hcl : PySem.W.clsIn X.K C = some { name := nm, bases := bs, mro := .ref C :: bm, ns := N, qualname := q, hasDict := true, slotNames := sn, subclasses := sub, abstract := ab, collection := col, hasDel := false } := by unfold PySem.W.clsIn; rw [hC] <;> rfl
  obtain ⟨t1, ho⟩ := exo_at I.hok e
  obtain ⟨mA, hns, rel⟩ := exd_at I.hok ed
  have hw := within_of rel
  obtain ⟨hp, g, d, t, os⟩ := s
  obtain ⟨oD, _, _, hoD, _, _⟩ := hns.count hw
  refine PySem.W.set_plain I.kIn (ox := { cls := .ref C, dict := some dx, data := .fields #[.ref t1, .none, .none, .none, .bool false, .none] }) (od := some oD) ⟨ho, rfl, rfl, hoD⟩ T.sa ?_
  refine osa_oldT TO I.kIn ho hns hw (by rw [List.length_map]; omega) hcl (show refsT tail (.ref C :: bm) = true from hbm) rfl hno (fun h' tk' k hn => ?_)
  have hd : ∃ o, h'.get? dx = some o := by
    obtain ⟨o, _, _, e', _⟩ := hn
    exact ⟨o, e'⟩
  exact h _ (I.write (t' := tk') (x := dx) (e := dx) (o := exd dx ((f, y) :: fs)) (by rw [ed]; exact True.intro) (.inl rfl) k hd (exd_ok hn (relO_put ry rel)))
end
/-- self.f = e -/
def tOstG (K : PySem.W.Frag) (f : Str) (to te : TE) : TS := fun D σ H => te σ H fun y H1 => to σ H1 fun x H2 => ∃ a C : Addr, x = .ref a ∧ OexG K C ∧ PySem.W.findIn K (.ref C) f = some none ∧
  ((H2 a = some (exo a C none) ∧ ∀ dx, H2 dx = none → dx ≠ a → D.nx σ (upd (upd H2 dx (exd dx [(f, y)])) a (exo a C (some dx)))) ∨
    ∃ (dx : Addr) (fs : List (Str × V)), H2 a = some (exo a C (some dx)) ∧ H2 dx = some (exd dx fs) ∧ fs.length ≤ 900 ∧ D.nx σ (upd H2 dx (exd dx ((f, y) :: fs))))
section
variable {X : Cx} {o e : Expr} {es : List Expr} {to te : TE} {ta : TA} {f : Str} {p p' p1 p2 pos : Pos}
theorem ps_ostG (ho : PE X o to) (he : PE X e te) (hs : swapsWith e (some (.Attribute o f p')) pos.line X.env = pure false := by rfl) : PS X (.Assign [.Attribute o f p'] e pos) (tOstG X.K f to te) := by
  refine ⟨fun pins s σ H D I h => ?_⟩
  refine plainObj_wpAny_Assign_Attribute (thn (he.run pins s σ H _ I h) fun v s1 ⟨y, H1, I1, r1, q1⟩ => thn (ho.run pins s1 σ H1 _ I1 q1) fun u s2 ⟨x, H2, I2, r2, a, C, ex, T, hno, q⟩ => ?_) hs
  subst ex
  obtain rfl : u = Value.ref a := r2
  rcases q with ⟨ea, q⟩ | ⟨dx, fs, ea, ed, hl, q⟩
  · exact ostG_new T I2 ea hno r1 fun dx s' n ne J => ⟨σ, _, J, q dx n ne⟩
  · exact ostG_old T I2 ea ed hl hno r1 fun s' J => ⟨σ, _, J, q⟩
end
/-- the class of an own exception, so that isinstance asks its instances rightly -/
structure XisC (K : PySem.W.Frag) (D : Addr) : Prop where
  hc : (PySem.W.clsIn K D).isSome = true
  hg : PySem.W.findIn K (.ref D) "__getattribute__" = some (some (.builtin "BaseException.__getattribute__"))
  hk : PySem.W.findIn K (.ref D) "__getattr__" = some none
  hs : PySem.W.subIn K (.ref D) (.type "BaseException") = some true
  ha : PySem.W.findIn K (.ref D) "__class__" = some (some (.builtin "object.__class__"))
  hn : PySem.W.specialIn K (.builtin "object.__class__") "__get__" = some (some (.builtin "getset_descriptor.__get__"))
  ht : PySem.W.takesIn K (.builtin "object.__class__") = some true
  hm : PySem.W.mroIn K D (.type "object") = some true
end L2
namespace PySem
namespace XVK
open HandSPX Builtin Builtin.ObjectAttr
section
variable {M : Model} {A : Around} {E : Value → Shared → Prop} {h : Heap} {g : Array GenState} {d : Drawn} {t : Nat} {os : OsState}
variable {nm q : Str} {C N : Addr} {bs bm bmB : List Value} {hdct : Bool} {sn : List Str} {sub : List Value} {ab : Bool} {col : Option Bool} {dd : Option Addr} {k0 k1 k2 k3 k5 : Option Value} {B newId initId : String}
theorem check_type_call_subK {M : Model} {rest : List Value} {kw : List (Str × Value)} {Q : Unit → Shared → Prop} (hC : h.get? C = some (excClassObj nm q C N bs bm hdct sn sub ab col dd k0 k1 k2 k3 k5 newId))
    (hq : Q () ⟨h, g, d, t, os⟩) : wpAny M A (checkBuiltinCall "type.__call__" ⟨.ref C :: rest, kw⟩) Q E ⟨h, g, d, t, os⟩ := by
  have f3 := tc_sub
  have hT : (⟨h, g, d, t, os⟩ : Shared).TypeIs (.ref C) "type" := ⟨_, hC, rfl⟩
  simp only [checkBuiltinCall, tc_kind, tc_split]
  repeat (any_goals (first | assumption | with_reducible refine wpAny_loadPart_at hC ?_ | with_reducible refine wpAny_onRaise ?_ | with_reducible refine wpAny_map ?_ | wp_step))
theorem check_new_ownK (F : ExcBaseFacts B newId initId bmB) (hT : ∀ X : String, bm.contains (.type X) = bmB.contains (.type X)) {rest : List Value} {kw : List (Str × Value)} {Q : Unit → Shared → Prop}
    (hC : h.get? C = some (excClassObj nm q C N bs bm hdct sn sub ab col dd k0 k1 k2 k3 k5 newId)) (hq : Q () ⟨h, g, d, t, os⟩) : wpAny M A (checkBuiltinCall newId ⟨.ref C :: rest, kw⟩) Q E ⟨h, g, d, t, os⟩ := by
  have hcont : (Value.ref C :: bm).contains (.type B) = true := by rw [List.contains_cons, hT, F.hasB, Bool.or_true]
  have hstar := F.noStar
  simp only [checkBuiltinCall, F.newKind, F.newSplit, F.newRow]
  repeat (first | refine wpAny_loadPart_at hC ?_ | (refine wpAny_isSubtype_exc hC ?_; rw [hcont]) | refine wpAny_staticBase_exc hC ?_ | refine wpAny_madeBy_exc hC ?_ | simp only [bne_self_eq_false, Bool.false_eq_true, if_false] | wp_step)
  exact hq
end
section
variable {prog : Program} {w : World} {A : Around} {E : Value → Shared → Prop} {R : Result → Shared → Prop} {h : Heap} {g : Array GenState} {d : Drawn} {t : Nat} {os : OsState}
variable {nm q : Str} {C N : Addr} {bs bm bmB : List Value} {hdct : Bool} {sn : List Str} {sub : List Value} {ab : Bool} {col : Option Bool} {dd : Option Addr} {k0 k1 k2 k3 k5 : Option Value} {B newId initId : String}
theorem new_ownK (F : ExcBaseFacts B newId initId bmB) (hT : ∀ X : String, bm.contains (.type X) = bmB.contains (.type X)) {rest : List Value} {kw : List (Str × Value)}
    (hC : h.get? C = some (excClassObj nm q C N bs bm hdct sn sub ab col dd k0 k1 k2 k3 k5 newId))
    (hq : R (.ok (.ret (.ref (h.objs.size + 1)))) ⟨(h.push { cls := .type "tuple", data := .seq rest.toArray }).push
      { cls := .ref C, data := .fields #[.ref h.objs.size, .none, .none, .none, .bool false, .none] }, g, d, t, os⟩) (hrest : rest.length ≤ sizeLine) :
    codeAny (model prog w) A (.builtin newId ⟨.ref C :: rest, kw⟩) R ⟨h, g, d, t, os⟩ := by
  have hends := F.ends
  have hcB : (Value.ref C :: bm).contains (.type B) = true := by rw [List.contains_cons, hT, F.hasB, Bool.or_true]
  have hcA : (Value.ref C :: bm).contains (.type "AttributeError") = false := by rw [List.contains_cons, hT, F.noAttr]; rfl
  have hcN : (Value.ref C :: bm).contains (.type "NameError") = false := by rw [List.contains_cons, hT, F.noName]; rfl
  refine codeAny_builtinAt F.entry ?_
  unfold Builtin.«BaseException.__new__»
  refine wpAt_bind ?_
  show wpAt _ _ _ (stack >>= _) _ _ _
  refine wpAt_bind (wpAt_stack fun p below => wpAt_of_wpAny ?_)
  wp_walk
  refine wpAt_of_wpAny ?_
  rw [F.owner]
  repeat (first | with_reducible refine wpAny_madeHere_exc F.canon hC ?_ | with_reducible refine wpAny_loadPart_at hC ?_ | (with_reducible refine wpAny_isSubtype_exc hC ?_; first | rw [hcB] | rw [hcA] | rw [hcN]) | wp_step)
  show R _ _
  rw [Heap.size_push]
  exact hq

theorem type_call_ownK (F : ExcBaseFacts B newId initId bmB) (hT : ∀ X : String, bm.contains (.type X) = bmB.contains (.type X)) {rest : List Value} {kw : List (Str × Value)} {fI : Addr} {Q : Fin → Shared → Prop}
    (hC : h.get? C = some (excClassObj nm q C N bs bm hdct sn sub ab col dd k0 k1 k2 k3 k5 newId))
    (hi : W.Looks (model prog w) h (typeLookup (.ref C) "__init__") (some (.ref fI))) (hb : ∀ self, W.Looks (model prog w) h (bindSpecial (.ref fI) self) (.ref fI, [self])) (hrest : rest.length ≤ sizeLine)
    (hq : codeAny (model prog w) A (.call (.ref fI) ⟨.ref (h.objs.size + 1) :: rest, kw⟩)
      (fun r s' => match r with | .ok (.ret v) => v = .none ∧ Q (.done (.ret (.ref (h.objs.size + 1)))) s' | .ok _ => False | .error e => E e s')
      ⟨(h.push (W.kdv_tup rest)).push (excO C h.objs.size), g, d, t, os⟩) :
    wpAny (model prog w) A (Builtin.«type.__call__» ⟨.ref C :: rest, kw⟩) Q E ⟨h, g, d, t, os⟩ := by
  repeat (first | with_reducible refine wpAny_loadPart_at hC ?_ | with_reducible refine wpAny_madeBy_exc hC ?_ | wp_step)
  refine codeAny_call_builtin_code (Code.quiet_builtin _ F.quiet) (check_new_ownK F hT hC ?_)
  refine new_ownK F hT hC ?_ hrest
  show wpAny _ _ _ _ _ _
  have k : ∀ b o, h.get? b = some o → ((h.push (W.kdv_tup rest)).push (excO C h.objs.size)).get? b = some o := fun b o e => Heap.get?_push_of_some _ (Heap.get?_push_of_some _ e)
  have hC₁ := k _ _ hC
  have hget : ((h.push (W.kdv_tup rest)).push (excO C h.objs.size)).get? (h.objs.size + 1) = some (excO C h.objs.size) := by heap_get
  have hcC : (Value.ref C :: bm).contains (.ref C) = true := by simp
  have i1 := hi.keeps k
  have b1 := (hb (.ref (h.objs.size + 1))).keeps k
  unfold isInstance
  repeat (first | with_reducible refine wpAny_loadPart_at hget ?_ | (with_reducible refine wpAny_isSubtype_exc hC₁ ?_; rw [hcC]) | wp_step)
  show wpAny _ _ (typeLookup (.ref C) _) _ _ _
  refine i1.at ?_
  refine wpAny_holding (wpAny_bind (b1.at ?_))
  refine wpAny_bind (wpAny_call (codeAny_mono hq fun r s' z => ?_))
  rcases r with e | (v | _ | _ | _) <;> first | exact z | exact z.elim | skip
  obtain ⟨rfl, z⟩ := z
  first
    | exact wpAny_pure (wpAny_pure z)
    | (wp_walk; exact z)

theorem call_ownK (F : ExcBaseFacts B newId initId bmB) (hT : ∀ X : String, bm.contains (.type X) = bmB.contains (.type X)) {rest : List Value} {kw : List (Str × Value)} {fI : Addr}
    (hC : h.get? C = some (excClassObj nm q C N bs bm hdct sn sub ab col dd k0 k1 k2 k3 k5 newId))
    (hi : W.Looks (model prog w) h (typeLookup (.ref C) "__init__") (some (.ref fI))) (hb : ∀ self, W.Looks (model prog w) h (bindSpecial (.ref fI) self) (.ref fI, [self])) (hrest : rest.length ≤ sizeLine)
    (hq : codeAny (model prog w) (A.under (.builtin "type.__call__" ⟨.ref C :: rest, kw⟩)) (.call (.ref fI) ⟨.ref (h.objs.size + 1) :: rest, kw⟩) (W.InitBack (h.objs.size + 1) R)
      ⟨(h.push (W.kdv_tup rest)).push (excO C h.objs.size), g, d, t, os⟩) :
    codeAny (model prog w) A (.call (.ref C) ⟨rest, kw⟩) R ⟨h, g, d, t, os⟩ := by
  have f1 := tc_lookup
  have f2 := tc_bind (.ref C)
  have hTy : (⟨h, g, d, t, os⟩ : Shared).TypeIs (.ref C) "type" := ⟨_, hC, rfl⟩
  refine codeAny_of_tree ?_
  show wpAny _ _ (callAny (.ref C) _) _ _ _
  repeat (any_goals (first | assumption | with_reducible refine wpAny_loadPart_at hC ?_ | wp_step))
  refine ⟨rfl, ?_⟩
  refine codeAny_call_builtin_at (Code.quiet_builtin _ (by decide +kernel)) entry_typeCall (check_type_call_subK hC (type_call_ownK F hT hC hi hb hrest ?_))
  refine codeAny_mono hq fun r s' z => ?_
  rcases r with e | (v | _ | _ | _) <;> exact z

end
end XVK
end PySem
namespace L2
open PySem PySem.Spec PyProof.Rows XV
/-- C(..), its own __init__ walked -/
def tMkN (C : Addr) (n m : Nat) (sp : Sp) (gV : List V → List V → List V) (ta tk : TA) : TE := fun σ H Q => ta σ H fun vs H1 => tk σ H1 fun zs H2 => vs.length = n ∧ zs.length = m ∧ n ≤ 1000 ∧ ∀ a, H2 a = none → sp (gV (.ref a :: vs) zs) (upd H2 a (exo a C none)) (fun v H3 => v = .non ∧ Q (.ref a) H3) E0
section
variable {X : Cx} {C fI : Addr} {k n : Nat} {fd : FuncData} {ps ks : List Str} {sp : Sp} {g : List Value → List Value → List Value} {gV : List V → List V → List V}
theorem run_mkG {pins : List (Addr × Obj)} {σ : St} {H : Hp} {s : Shared} {Q : VK} {us ws : List Value} {vs zs : List V} (T : OexG X.K C) (iC : PySem.W.findIn X.K (.ref C) "__init__" = some (some (.ref fI))) (tI : PySem.W.typeIn X.K (.ref fI) = some (.type "function"))
    (F1 : FnOk X.prog X.w X.K X.mg X.base CX0 k fI fd ps sp) (hr : Room (k + 1) X.A) (hb : KBn X.K fd ps (n + 1) ks g gV) (I : Inv X pins σ H s) (r : Vals vs us) (rz : Vals zs ws) (l1 : vs.length = n) (l2 : zs.length = ks.length) (hn : n ≤ 1000)
    (h : ∀ a, H a = none → sp (gV (.ref a :: vs) zs) (upd H a (exo a C none)) (fun v H3 => v = .non ∧ Q (.ref a) H3) E0) : wpAny (model X.prog X.w) X.A (call (.ref C) us (ks.zip ws)) (EP X pins σ Q) X.xe s := by
  obtain ⟨B, nid, iid, tail, nm, q, N, bs, bm, sn, sub, ab, col, dd, k0, k1, k2, k3, k5, FB, TO, hC, hbm⟩ := T.cls
  obtain ⟨hp, gg, dr, tk, os⟩ := s
  have hsz : hp.objs.size ≤ hp.objs.size + 1 := Nat.le_succ _
  have hn0 : H (hp.objs.size + 1) = none := I.hok.fresh hsz
  have hq := h (hp.objs.size + 1) hn0
  have kk : ∀ b o, hp.get? b = some o → ((hp.push (PySem.W.kdv_tup us)).push (PySem.HandSPX.excO C hp.objs.size)).get? b = some o := fun b o e => Heap.get?_push_of_some _ (Heap.get?_push_of_some _ e)
  have hget : ((hp.push (PySem.W.kdv_tup us)).push (PySem.HandSPX.excO C hp.objs.size)).get? (hp.objs.size + 1) = some (PySem.HandSPX.excO C hp.objs.size) := by heap_get
  have I2 : Inv X pins σ (upd H (hp.objs.size + 1) (exo (hp.objs.size + 1) C none)) ⟨(hp.push (PySem.W.kdv_tup us)).push (PySem.HandSPX.excO C hp.objs.size), gg, dr, tk, os⟩ :=
    I.laid (t' := tk) (a := hp.objs.size + 1) (o := exo (hp.objs.size + 1) C none) (h' := (hp.push (PySem.W.kdv_tup us)).push (PySem.HandSPX.excO C hp.objs.size)) kk hsz (exo_ok hget)
  have r1 : Vals (V.ref (hp.objs.size + 1) :: vs) (Value.ref (hp.objs.size + 1) :: us) := .cons rfl r
  have r2 := hb.rel r1 rz
  have e1 : (Value.ref (hp.objs.size + 1) :: us).length = n + 1 := r1.length.symm.trans (congrArg Nat.succ l1)
  have e2 : ws.length = ks.length := rz.length.symm.trans l2
  have hus : us.length ≤ sizeLine := by
    rw [← Paired.length r, l1, sizeLine_eq]
    omega
  refine wpAny_call (PySem.XVK.call_ownK FB (fun Y => refsT_contains TO Y bm hbm) (I.kIn _ _ hC) (PySem.W.looks_findIn I.kIn iC) (fun self => PySem.W.bind_fn I.kIn self tI) hus
    (codeAny_mono (F1.run _ X.stack _ _ ⟨Value.ref (hp.objs.size + 1) :: us, ks.zip ws⟩ (g (Value.ref (hp.objs.size + 1) :: us) ws) _ _ E0 (hr.make C us (ks.zip ws)) (I2.env0.make C us (ks.zip ws)) (hb.to _ (Value.ref (hp.objs.size + 1) :: us) ws I2.kIn e1 e2) r2 hq) fun r s' hq' => ?_))
  cases r with
  | error er => exact pass0 pins σ _ _ er s' I2 hq'
  | ok fl =>
    cases fl with
    | ret u =>
      obtain ⟨v, H', I3, rv, ev, q3⟩ := I2.after hq'
      subst ev
      exact ⟨rv, ⟨V.ref (hp.objs.size + 1), H', I3, rfl, q3⟩⟩
    | next => exact False.elim hq'
    | brk => exact False.elim hq'
    | cont => exact False.elim hq'
/-- a class to be made: where it stands, its __init__ -/
structure Xm (P : Program) (w : World) (K : PySem.W.Frag) (mg : Str → Option Value) (base : Heap) (C : Addr) (k : Nat) (fI : Addr) (fd : FuncData) (x : Str) (ps : List Str) (sp : Sp) : Prop where
  T : OexG K C
  iC : PySem.W.findIn K (.ref C) "__init__" = some (some (.ref fI))
  tI : PySem.W.typeIn K (.ref fI) = some (.type "function")
  ok : FnOk P w K mg base CX0 k fI fd ps sp
  m : mg x = some (.ref C)
theorem pe_mkG0 {x : Str} {p pos : Pos} (M : Xm X.prog X.w X.K X.mg X.base C k fI fd x ps sp) (hr : Room (k + 1) X.A) (hg : Gl X x) (hb : KBn X.K fd ps 1 [] g gV) (hdb : (x == ("__debug__" : Str)) = false := by decide) :
    PE X (.Call (.Name x p) [] [] pos) (tMkN C 0 0 sp gV tNil tNil) := by
  refine ⟨fun pins s σ H Q I h => ?_⟩
  refine wpAny_Call_Name_kw (ld_glob I hg M.m ?_ hdb)
  obtain ⟨l1, l2, l3, q⟩ := h
  exact PySem.W.callWith_K0 I.kIn M.T.kC (run_mkG (us := []) (ws := []) (vs := []) (zs := []) M.T M.iC M.tI M.ok hr hb I .nil .nil rfl rfl l3 q)
end
end L2
/-! ### own exceptions raised and caught: a tuple of classes with a name, the caught one handed to a def -/
namespace ExR
open PySem PySem.Spec PyProof.Rows L2
section
variable {X : Cx}
/-- raise of an expression that makes an own exception (with its dict) -/
theorem pmk_exo {e : Expr} {te : TE} (hx : X.ex = []) (he : PE X e te) :
    PMk X e (fun σ H Q => te σ H fun x H1 => ∃ a C d, x = .ref a ∧ H1 a = some (exo a C (some d)) ∧ Fr0 X.H_0 a ∧ Raises X (.ref C) ∧ Q (.ref C) (some d) (delH H1 a)) := by
  intro pins s σ H Q I h
  refine wpAny_mono (he.run pins s σ H _ I h) (fun u s1 hu => ?_) fun _ _ x => x
  obtain ⟨v, H1, I1, r1, a, C, d, rfl, ha, h0, hr, q⟩ := hu
  cases r1
  obtain ⟨t1, ho⟩ := exo_at I1.hok ha
  obtain ⟨G, gs, ga, J⟩ := I1.untrack ha h0 hx
  exact ⟨a, _, _, { s1 with heap := G }, delH H1 a, .ref C, some d, rfl, J, gs, ga, ho, ⟨rfl, rfl⟩, rfl, rfl, delH_same, rfl, I1.bare, hr, q⟩
end
/-! a def that is handed the caught exception -/
structure FnE (P : Program) (w : World) (K : PySem.W.Frag) (mg : Str → Option Value) (base : Heap) (CX : CXT) (k : Nat) (f : Addr) (fd : FuncData) (ps : List Str) (sp : Addr → Value → Option Addr → Sp) : Prop where
  len : ∀ a cls d vs H Q E, sp a cls d vs H Q E → vs.length = ps.length
  run : ∀ (A : Around) (outer : List Env) (s : Shared) (H : Hp) (args : Args) (us : List Value) (vs : List V) (Q : VK) (E : XK) (p : Addr × Obj) (cls : Value) (d : Option Addr), L2H.RoomH k A → Zc cls d p.2 → (∃ fs, p.2.data = .fields fs) → L2H.PinOk outer H s p → Env0 P w K mg base A outer s H → BindsTo s fd args (ps.zip us) → Vals vs us → sp p.1 cls d vs H Q E →
    codeAny (model P w) A (.call (.ref f) args) (CR CX outer P w H s Q E) s
theorem fn_ofE {CX : CXT} {P : Program} {w : World} {K : PySem.W.Frag} {mg : Str → Option Value} {base : Heap} {k : Nat} {f : Addr} {name qual : Str} {params : Arguments} {body : List Stmt} {scope : Scope} {dV kV doc pm cdv ct oc : Value} {an od : Option Addr}
    {osl : Array (Option Value)} {N ps : List Str} {sp : Addr → Value → Option Addr → Sp} (lk : K.lookup f = some ⟨oc, od, .func (PySem.W.fnOf name qual params body scope dV kV doc pm an cdv ct), osl⟩) (hcd : PySem.W.codeIn K cdv qual = true) (S : FnScope N ps scope)
    (len : ∀ a cls d vs H Q E, sp a cls d vs H Q E → vs.length = ps.length)
    (hbody : ∀ (A : Around) (outer : List Env) (s : Shared) (H : Hp) (vs : List V) (Q : VK) (E : XK) (p : Addr × Obj) (cls : Value) (d : Option Addr), Zc cls d p.2 → (∃ fs, p.2.data = .fields fs) → L2H.RoomH k (A.deeper (envOfC qual scope s.heap.objs.size f cdv)) → sp p.1 cls d vs H Q E →
      ∃ t, PSs (L2H.cxH CX P w K mg base N qual scope f cdv A outer s H E p) body t ∧ t { nx := fun _ H' => Q .non H', rt := Q } (L2.start N vs) H) :
    FnE P w K mg base CX (k + 1) f (PySem.W.fnOf name qual params body scope dV kV doc pm an cdv ct) ps sp := by
  refine ⟨len, fun A outer s H args us vs Q E p cls d hr hz hfd hpin e0 hb r hsp => ?_⟩
  have hl := len _ _ _ _ _ _ _ hsp
  have KX : K.In s.heap := e0.mod.kin.keeps fun b o e => (e0.bs b o e).1
  have lim : s.heap.NoLimit := e0.mod.nolimit.keeps fun b o e => (e0.bs b o e).1
  have hkind : ∀ y ∈ ps.zip us, scope.names.lookup y.1 = some .local ∨ (scope.names.lookup y.1 = some .cell ∧ ((cellsFrom (s.heap.objs.size + 1) scope.names []).lookup y.1).isSome = true) := fun ⟨n, v⟩ hy => by
    rcases S.par n (List.of_mem_zip hy).1 with q | q
    · exact .inl q
    · exact .inr ⟨q, PySem.W.cellsFrom_some _ _ _ (.inl q)⟩
  refine codeAny_call_function hr.depth (KX _ _ lk) rfl S.co S.gen rfl (PySem.W.codeRec_of KX hcd) (hb _ _ _ _ ?_)
  refine wpAny_newFunctionEnv_cells S.kind hkind fun env he s1 x => ?_
  subst he
  refine ⟨lim.keeps x.toInCall.keep, codeAny_func ?_⟩
  obtain ⟨t, ht, hq⟩ := hbody A outer s H vs Q E p cls d hz hfd (hr.deeper _) hsp
  have I : Inv (L2H.cxH CX P w K mg base N qual scope f cdv A outer s H E p) [] (L2.start N vs) H s1 := L2H.inv_startH S hpin e0 hl r x
  refine wpAny_mono (ht.run [] s1 (L2.start N vs) H _ I hq) (fun fl s' hs => ?_) fun e s' hs => hs
  have fin : ∀ {σ' : L2.St} {H' : Hp} {v : V} {u : Value}, Inv (L2H.cxH CX P w K mg base N qual scope f cdv A outer s H E p) [] σ' H' s' → RelV v u → Q v H' → CE outer P w H s Q u s' :=
    fun {σ' H' v u} J rv q => ⟨v, H', J.os, J.bare, J.base, J.hok, rv, q⟩
  cases fl with
  | ret u =>
    obtain ⟨v, σ', H', J, rv, q⟩ := hs
    exact fin J rv q
  | next =>
    obtain ⟨σ', H', J, q⟩ := hs
    exact fin (v := V.non) (u := Value.none) J rfl q
  | brk =>
    obtain ⟨_, _, _, q⟩ := hs
    exact False.elim q
  | cont =>
    obtain ⟨_, _, _, q⟩ := hs
    exact False.elim q
/-- the context bears the caught exception p -/
structure Bears (X : Cx) (p : Addr × Obj) (cls : Value) (d : Option Addr) : Prop where
  pn : p ∈ X.pn
  z : Zc cls d p.2
  fs : ∃ fs, p.2.data = .fields fs
section
variable {X : Cx} {CX : CXT} {k : Nat} {f C : Addr} {fd : FuncData} {ps : List Str} {sp : Addr → Value → Option Addr → Sp} {E : XK} {x : Str} {q pos apos : Pos} {e : Expr} {es : List Expr} {ta : TE} {t : TA} {p : Addr × Obj} {cls : Value} {d : Option Addr}
/-- f(e, ..) beside a caught exception -/
theorem pe_callE (F : FnE X.prog X.w X.K X.mg X.base CX k f fd ps sp) (hr : L2H.RoomH k X.A) (B : Bears X p cls d) (hg : Gl X x) (hm : X.mg x = some (.ref f)) (hk : PySem.W.keepIn X.K (.ref f) = true) (hb : Binds X.K fd ps []) (hx : Passes CX X E)
    (ha : PA X (e :: es) t) (hdb : (x == ("__debug__" : Str)) = false := by decide) (he : starEach (e :: es) X.env = (false, eval e X.env) :: starEach es X.env := by rfl) (hpl : (backTo pos (starEach es X.env)).any (·.1) = false := by rfl) :
    PE X (.Call (.Name x q) (e :: es) [] pos) (fun σ H Q => t σ H fun vs H1 => sp p.1 cls d vs H1 Q E) := by
  refine ⟨fun pins s σ H Q I h => ?_⟩
  refine wpAny_Call_Name_kw (ld_glob I hg hm ?_ hdb)
  refine PySem.W.callWith_K (h₀ := X.base) I.ok.mod.kin hk (thn (ha.run pos pins s σ H _ I h) fun us s1 ⟨vs, H1, I1, r, q⟩ => ⟨I1.kIn, ?_⟩) he hpl
  have hl : us.length = ps.length := by rw [← r.length]; exact F.len _ _ _ _ _ _ _ q
  have b := hb s1 us I1.kIn (by rw [List.append_nil]; exact hl)
  rw [List.append_nil] at b
  have P1 := I1.pin p (List.mem_append_left _ B.pn)
  have hpin : L2H.PinOk X.stack H1 s1 p := ⟨P1.1, P1.2.1, fun hm => (List.mem_cons.mp (I1.stkSub p.1 hm)).elim P1.2.2.1 P1.2.2.2.1, P1.2.2.2.2⟩
  refine wpAny_call (codeAny_mono (F.run X.A X.stack s1 H1 ⟨us, []⟩ us vs Q E p cls d hr B.z B.fs hpin I1.env0 b r q) fun r s' hq => ?_)
  cases r with
  | error e => exact hx pins σ H1 s1 e s' I1 hq
  | ok fl =>
    cases fl with
    | ret u => exact I1.after hq
    | next => exact False.elim hq
    | brk => exact False.elim hq
    | cont => exact False.elim hq
/-- e.f, e the caught exception -/
def tXe (K : PySem.W.Frag) (a : Addr) (cls : Value) (d : Option Addr) (f : Str) (te : TE) : TE := fun σ H Q => te σ H fun x H1 => ∃ (C dd : Addr) (fs : List (Str × V)) (v : V), x = .ref a ∧ cls = .ref C ∧ XfC K C ∧ PySem.W.findIn K (.ref C) f = some none ∧ d = some dd ∧ H1 dd = some (exd dd fs) ∧ fs.lookup f = some v ∧ Q v H1
theorem pe_xe {n : Str} {te : TE} (B : Bears X p cls d) (he : PE X e te) (hb : attributeBase e n X.env (eval e X.env) = eval e X.env := by rfl) : PE X (.Attribute e n pos) (tXe X.K p.1 cls d n te) := by
  refine ⟨fun pins s σ H Q I h => ?_⟩
  refine attr_of hb (thn (he.run pins s σ H _ I h) fun u s1 hh => ?_)
  obtain ⟨x, H1, I1, rx, C, dd, fs, v, ex, ec, T, hno, ed, ea, l, q⟩ := hh
  subst ex
  obtain rfl : u = Value.ref p.1 := rx
  obtain ⟨ha, _⟩ := I1.pin p (List.mem_append_left _ B.pn)
  obtain ⟨vs, hd⟩ := B.fs
  obtain ⟨mA, hns, hr⟩ := exd_at I1.hok ea
  obtain ⟨od, ho, hl⟩ := lookIn_ns hns
  obtain ⟨u, hu, ru⟩ := RelO.some_of (v := v) (o := mA n) (by rw [← l]; exact hr n)
  have J : PySem.W.InstAt s1.heap p.1 p.2 C (some od) := ⟨ha, by rw [B.z.1, ec], by unfold PySem.W.notCls; rw [hd] <;> rfl, by rw [B.z.2, ed]; exact ho⟩
  exact HandSPX.exc_get I1.kIn J T.ga T.gg T.exC (PySem.W.findObj_own T.hdC hno rfl (by rw [hl, hu])) (handed_of ru) ⟨v, H1, I1.tok _, ru, q⟩
end
/-! except (A, B, C) as e -/
def wAs3 (K : PySem.W.Frag) (cs : List Value) (i : Nat) (ts : Addr → Value → Option Addr → TS) (Wout : WX) (D : Ends) : WX := fun cls d σ H =>
  ∃ b, PySem.W.exmAny K cls cs = some b ∧ (b = true → ∀ a, H a = none → ts a cls d { nx := fun σ' H' => D.nx (σ'.set i none) H', rt := D.rt, bk := fun σ' H' => D.bk (σ'.set i none) H', ct := fun σ' H' => D.ct (σ'.set i none) H' } (σ.set i (some (.ref a))) H) ∧
    (b = false → Wout cls d σ H)
theorem flying_push {B h : Heap} {l : List Env} {a : Addr} {Z : Obj → Prop} (f : HandSPX.FlyingZ B l a Z h) (o : Obj) : HandSPX.FlyingZ B l a Z (h.push o) := by
  obtain ⟨k1, k2, k3, oe, vs, T, oT, ts, he, hz, hd, h1, hb, ht, hT, hdT, h3⟩ := f
  exact ⟨fun b o' e => Heap.get?_push_of_some _ (k1 b o' e), k2, k3.of_keeps fun b o' e _ => ⟨o', Heap.get?_push_of_some _ e, rfl⟩, oe, vs, T, oT, ts, Heap.get?_push_of_some _ he, hz, hd, h1, hb, ht, Heap.get?_push_of_some _ hT, hdT, h3⟩
section
variable {X : Cx} {x1 x2 x3 n : Str} {c1 c2 c3 : Value} {i : Nat} {body suite : List Stmt} {b₀ : Stmt} {p1 p2 p3 tpos pos pos' : Pos} {kk : Nat} {tb : WX → TS} {ts : Addr → Value → Option Addr → TS} {Wout : WX}
theorem ps_try_as3 (hs : X.stack = X.env :: X.outer) (hf : X.env.frame = some X.env.locals) (hN : X.N.Nodup) (hi : X.N[i]? = some n) (hln : X.env.kindOf n = some .local) (hc1 : Names X x1 c1) (hc2 : Names X x2 c2) (hc3 : Names X x3 c3) (tk : Takes X Wout)
    (hb : ∀ (W : WX) (pn : List (Addr × Obj)) (xe : Value → Shared → Prop), Takes (X.tr pn xe) W → PassesOwn (model X.prog X.w) X.A X.env xe → PSs (X.tr pn xe) body (tb W))
    (hsu : ∀ (a : Addr) (oe : Obj) (cls : Value) (d : Option Addr) (pn : List (Addr × Obj)), Zc cls d oe → (∃ vs, oe.data = .fields vs) → PSs (X.suite a ((a, oe) :: pn)) (b₀ :: suite) (ts a cls d)) :
    PS X (.Try body [.ExceptHandler (some (.Tuple [.Name x1 p1, .Name x2 p2, .Name x3 p3] kk tpos)) (some n) (b₀ :: suite) pos'] [] [] pos) (fun D σ H => tb (wAs3 X.K [c1, c2, c3] i ts Wout D) D σ H) := by
  refine ⟨fun pins s σ H D I h => ?_⟩
  have ok := I.ok
  have hfr : X.A.frames = some (X.env :: X.outer) := by rw [ok.frames, hs]
  have hloc : Loc X.env.scope n := .inl hln
  refine wpAny_Try_except ?_
  refine wpAny_mono ((hb (wAs3 X.K [c1, c2, c3] i ts Wout D) (X.pn ++ pins) (fun e s₁ => wpAny (model X.prog X.w) X.A (noteFrame e X.env) (fun _ s₂ => wpAny (model X.prog X.w) X.A (setFlight e none) (fun _ s₃ =>
    wpAny (model X.prog X.w) X.A (handleBy e X.env [.ExceptHandler (some (.Tuple [.Name x1 p1, .Name x2 p2, .Name x3 p3] kk tpos)) (some n) (b₀ :: suite) pos']) (SP X pins D) X.xe s₃) X.xe s₂) X.xe s₁) (fun u s' xx => ?_) PassesOwn.looking).run [] s σ H D (I.toTry _) h) (fun f s1 hsp => ?_) (fun e s1 he => he)
  · -- the catch
    obtain ⟨a, B, sI, pins', σ', H', cls, d, rfl, J', nb, up, sky, na, os, ag, b, hb1, hyes, hno⟩ := xx
    have J : Inv X pins σ' H' sI := J'.ofTry ok
    have sky' : Sky B (X.env :: X.outer) a (Zc cls d) X.env.locals s'.heap := by rw [← hs]; exact sky
    show wpAny (model X.prog X.w) X.A (noteFrame (.ref a) X.env) _ _ _
    refine Sky.land Zc.steady hfr hf sky' fun h2 fl2 up2 => ?_
    have J2 : Inv X pins σ' H' { s' with heap := h2 } := J.landed nb fl2.1 (up.trans up2) os ag
    obtain ⟨oe2, vs2, he2, hz2, hd2⟩ := fl2.there
    have notFr : ∀ {h : Heap} {o : Obj} {vs : Array Value}, h.FunFrames B (X.env :: X.outer) → h.get? a = some o → o.data = .fields vs → a ∉ frs (X.env :: X.outer) := fun {h o vs} ff e dd hm => by
      obtain ⟨_, o', e', hnf⟩ := ff.mem hm
      rw [e] at e'; cases e'
      exact hnf _ dd
    have nfr := notFr fl2.2.2.1 he2 hd2
    have nL : a ≠ X.env.locals := fun z => nfr (List.mem_filterMap.mpr ⟨X.env, List.mem_cons_self, by rw [hf, z]⟩)
    have nF : a ∉ X.fs := fun hm => by
      obtain ⟨e, he, q⟩ := List.mem_filterMap.mp hm
      exact nfr (List.mem_filterMap.mpr ⟨e, List.mem_cons_of_mem _ he, q⟩)
    have S2 := J2.suite he2 hd2 na nL nF
    refine wpAny_handleBy_cons (codeAny_handlers_test ?_) (by intro q; cases q)
    have test : ∀ {x : Str} {c : Value} {np : Pos} {Q : Value → Shared → Prop} {E : Value → Shared → Prop}, Names X x c → Q c { s' with heap := h2 } → wpAny (model X.prog X.w) (X.A.mark (some (.ref a))) (eval (.Name x np) X.env) Q E { s' with heap := h2 } := fun {x c np Q E} hc q => by
      obtain ⟨hg, hdbg, hm | ⟨hm, hv, hnn⟩⟩ := hc
      · exact ld_glob (X := X.suite a ((a, oe2) :: (X.pn ++ pins))) S2 hg hm q hdbg
      · exact ld_blt (X := X.suite a ((a, oe2) :: (X.pn ++ pins))) S2 hg hm hv q hnn hdbg
    refine wpAny_Tuple ?_
    refine wpAny_items_cons (test hc1 ?_)
    refine wpAny_items_cons (test hc2 ?_)
    refine wpAny_items_cons (test hc3 ?_)
    refine wpAny_items_nil ⟨by size_fits, ?_⟩
    generalize hh3 : h2.push { cls := .type "tuple", data := .seq [c1, c2, c3].toArray } = h3
    have fl3 : HandSPX.FlyingZ B (X.env :: X.outer) a (Zc cls d) h3 := by rw [← hh3]; exact flying_push fl2 _
    have upp : h2.UpToSlots h3 := by rw [← hh3]; exact Heap.UpToSlots.of_keeps fun _ _ z => Heap.get?_push_of_some _ z
    have up3 : s'.heap.UpToSlots h3 := up2.trans upp
    have J3 : Inv X pins σ' H' { s' with heap := h3 } := J.landed nb fl3.1 (up.trans up3) os ag
    obtain ⟨oe3, vs3, he3, hz3, hd3⟩ := fl3.there
    have LT : PySem.W.Looks (model X.prog X.w) h3 (typeOf (.ref a)) cls := fun A Q E s k q => wpAny_typeOf_ref (k _ _ he3) (by rw [hz3.1]; exact q)
    have hp : h3.get? h2.objs.size = some { cls := .type "tuple", data := .seq [c1, c2, c3].toArray } := by rw [← hh3]; exact Heap.get?_push_size h2 rfl
    have LM := PySem.W.exm_tup3 (M := model X.prog X.w) (J3.kIn) LT hp hb1
    show wpAny (model X.prog X.w) (X.A.mark (some (.ref a))) (excMatches (.ref a) (.ref h2.objs.size)) _ _ { s' with heap := h3 }
    refine LM.here ?_
    cases b with
    | true =>
      refine codeAny_handlers_suite_as ?_
      refine HandSPX.lands_againZ fl3 fun h4 fl4 up4 => ?_
      have J4 : Inv X pins σ' H' { s' with heap := h4 } := J.landed nb fl4.1 ((up.trans up3).trans up4) os ag
      obtain ⟨oe4, vs4, he4, hz4, hd4⟩ := fl4.there
      have S4 := J4.suite he4 hd4 na nL nF
      refine store_ok (X := X.suite a ((a, oe4) :: (X.pn ++ pins))) (v := .ref a) S4 hN hi hloc rfl (fun s5 S5 => ?_) (.inr hln)
      refine wpAny_mono ((hsu a oe4 cls d (X.pn ++ pins) hz4 ⟨_, hd4⟩).run [] s5 _ H' _ S5 (hyes rfl a na)) (fun f s6 hsp => ?_) (fun _ _ z => False.elim z)
      have end_ : ∀ {σ6 : L2.St} {H6 : Hp} {Q : Shared → Prop}, Inv (X.suite a ((a, oe4) :: (X.pn ++ pins))) [] σ6 H6 s6 → (∀ s7, Inv X pins (σ6.set i none) H6 s7 → Q s7) →
          wpAny (model X.prog X.w) X.A (do bindName X.env n .none; unbindBehindTheSuite X.env n pos') (fun _ s7 => Q s7) X.xe s6 := fun {σ6 H6 Q} S6 hq => gone_ok (S6.unsuite ok) hN hi hln hq
      cases f with
      | next =>
        obtain ⟨σ6, H6, S6, q6⟩ := hsp
        exact end_ S6 fun s7 J7 => ⟨_, _, J7, q6⟩
      | brk =>
        obtain ⟨σ6, H6, S6, q6⟩ := hsp
        exact end_ S6 fun s7 J7 => ⟨_, _, J7, q6⟩
      | cont =>
        obtain ⟨σ6, H6, S6, q6⟩ := hsp
        exact end_ S6 fun s7 J7 => ⟨_, _, J7, q6⟩
      | ret u =>
        obtain ⟨v6, σ6, H6, S6, r6, q6⟩ := hsp
        exact end_ S6 fun s7 J7 => ⟨_, _, _, J7, r6, q6⟩
    | false =>
      show wpAny _ X.A (handleBy (.ref a) X.env []) _ _ _
      refine wpAny_handleBy_nil ?_
      obtain ⟨k1, k2, k3, oe, vs, T, oT, ts', he, hz, hd, h1, hr⟩ := id fl3
      unfold PySem.passOn
      refine wpAny_bind (wpAny_field he hd h1 ?_)
      rw [if_neg (show ¬ ((Value.ref T == Value.none) = true) from by simp)]
      have fin : wpAny (model X.prog X.w) X.A (setFlight (.ref a) X.env.frame) (fun _ s4 => wpAny (model X.prog X.w) X.A (throw (.ref a) : Sem Flow) (SP X pins D) X.xe s4) X.xe { s' with heap := h3 } := by
        rw [hf]
        refine HandSPX.setFlight_upZ fl3 fun h4 hh4 up4 => wpAny_throw (tk _ _ ?_)
        exact ⟨a, B, sI, pins, σ', H', cls, d, rfl, J, nb, (up.trans up3).trans up4, .inr (.inr (by rw [hs]; exact hh4)), na, os, ag, hno rfl⟩
      first
        | exact wpAny_bind (wpAny_pure (wpAny_bind fin))
        | exact wpAny_bind fin
  · cases f with
    | next =>
      obtain ⟨σ', H', J', q⟩ := hsp
      exact wpAny_execs_nil ⟨σ', H', J'.ofTry ok, q⟩
    | brk =>
      obtain ⟨σ', H', J', q⟩ := hsp
      exact ⟨σ', H', J'.ofTry ok, q⟩
    | cont =>
      obtain ⟨σ', H', J', q⟩ := hsp
      exact ⟨σ', H', J'.ofTry ok, q⟩
    | ret u =>
      obtain ⟨v, σ', H', J', r, q⟩ := hsp
      exact ⟨v, σ', H', J'.ofTry ok, r, q⟩
end
end ExR
namespace Un
open PySem L2 TL
def top (i : Nat) : Stmt := PySem.Challenge.pw_unopened_k27_forms_told_and_refused.main.body.getD i (.Pass ⟨0, 0, 0, 0⟩)
abbrev sBag : Stmt := top 48
abbrev sPull : Stmt := top 49
abbrev sAny : Stmt := top 50
/-! the law's drawing: a bag at b, its cells at c -/
structure BagIs (H : Hp) (b c : Addr) (ns : List Int) (p r s k : Int) : Prop where
  lb : H b = some (.lst [.ref c, .int p, .int r, .int s, .int k])
  lc : H c = some (.lst (ns.map V.int))
  nl : ns.length ≤ 63
  p0 : 0 ≤ p
  s0 : 0 ≤ s
  s1 : s < 2147483648
  r0 : 0 ≤ r
def Bag (H : Hp) (b c : Addr) : Prop := ∃ ns p r s k, BagIs H b c ns p r s k
/-- what was tracked is as it was, the bag aside -/
def Kp (b : Addr) (H H' : Hp) : Prop := ∀ a o, H a = some o → a ≠ b → H' a = some o
theorem Kp.refl (b : Addr) (H : Hp) : Kp b H H := fun _ _ h _ => h
theorem Kp.trans {b : Addr} {H H1 H2 : Hp} (x : Kp b H H1) (y : Kp b H1 H2) : Kp b H H2 := fun a o h n => y a o (x a o h n) n
theorem Same.kp {b : Addr} {H H' : Hp} (x : Same H H') : Kp b H H' := fun a o h _ => x a o h
theorem same_upd {H : Hp} {p : Addr} (h : H p = none) (o : HO) : Same H (upd H p o) := fun b u q => by rw [upd_ne (ne_of_none q h)]; exact q
theorem Bag.ne {H : Hp} {b c : Addr} (B : Bag H b c) : b ≠ c := by
  obtain ⟨ns, p, r, s, k, B⟩ := B
  intro e
  have h1 := B.lb
  rw [e, B.lc] at h1
  cases ns with
  | nil => cases h1
  | cons x t => 
    have := Option.some.inj h1
    cases this
theorem Bag.same {H H' : Hp} {b c : Addr} (B : Bag H b c) (x : Same H H') : Bag H' b c := by
  obtain ⟨ns, p, r, s, k, B⟩ := B
  exact ⟨ns, p, r, s, k, x _ _ B.lb, x _ _ B.lc, B.nl, B.p0, B.s0, B.s1, B.r0⟩
theorem Bag.upd_new {H : Hp} {b c q : Addr} (B : Bag H b c) (h : H q = none) (o : HO) : Bag (upd H q o) b c := B.same (same_upd h o)
theorem Bag.there {H : Hp} {b c : Addr} (B : Bag H b c) : ∃ o, H b = some o := by
  obtain ⟨ns, p, r, s, k, B⟩ := B
  exact ⟨_, B.lb⟩
theorem Bag.fresh {H : Hp} {b c q : Addr} (B : Bag H b c) (h : H q = none) : q ≠ b := by
  obtain ⟨o, e⟩ := B.there
  exact (ne_of_none e h).symm
/-- the bag's list is written -/
theorem BagIs.put {H : Hp} {b c : Addr} {ns : List Int} {p r s k p' r' s' k' : Int} (B : BagIs H b c ns p r s k) (h0 : 0 ≤ p') (h1 : 0 ≤ s') (h2 : s' < 2147483648) (h3 : 0 ≤ r') :
    BagIs (upd H b (.lst [.ref c, .int p', .int r', .int s', .int k'])) b c ns p' r' s' k' := by
  have n : b ≠ c := Bag.ne ⟨ns, p, r, s, k, B⟩
  exact ⟨upd_same, by rw [upd_ne n.symm]; exact B.lc, B.nl, h0, h1, h2, h3⟩
def spPull : Sp := fun vs H Q _ => ∃ (b c : Addr) (many : Int), vs = [.ref b, .int many] ∧ Bag H b c ∧ 0 < many ∧ many < 1073741824 ∧
  ∀ (d : Int) (H' : Hp), 0 ≤ d → d < many → Bag H' b c → Kp b H H' → Q (.int d) H'
section
variable {P : Program} {w : World} {K : PySem.W.Frag} {mg : Str → Option Value} {base : Heap}
theorem scPull : FnScope ["_law_bag_here", "_law_many", "_law_cell", "_law_digit", "_law_seed"] ["_law_bag_here", "_law_many"] (defScope sPull) := ⟨rfl, rfl, rfl, by decide +kernel, rfl, by decide +kernel, by decide +kernel⟩
theorem ok_pull {f : Addr} {fd : FuncData} (F : Fun K "_law_pull" "_law_pull" sPull f fd) (mlen : mg "len" = none) (mint : mg "int" = none) : FnOk P w K mg base CX0 1 f fd ["_law_bag_here", "_law_many"] spPull := by
  refine F.ok scPull (fun vs H Q E h => ?_) (fun cdv A outer s H vs Q E hr h => ?_)
  · obtain ⟨b, c, many, rfl, _⟩ := h
    rfl
  obtain ⟨b, c, many, rfl, ⟨ns, p, r, s, k, B⟩, m0, m1, q⟩ := h
  refine ⟨_, C8.pss_cut (ps_if (PW.pt (pw_and (pt_cmpR op_eq (pe_ix ix_list (pv 0) pe_int (fun _ _ => rfl)) pe_int (nomark _)) (pw_and1 (pt_cmpR op_lt (pe_ix ix_list (pv 0) pe_int (fun _ _ => rfl)) (pe_callB call_len_seq (by rfl) mlen PySem.boot_len (pa_cons (pe_ix ix_list (pv 0) pe_int (fun _ _ => rfl)) pa_nil)) (nomark _)))))
      (pss_cons (ps_set (i := 2) scPull.nd rfl (Or.inl rfl) (pe_ix ix_list (pe_ix ix_list (pv 0) pe_int (fun _ _ => rfl)) (pe_ix ix_list (pv 0) pe_int (fun _ _ => rfl)) (fun _ _ => rfl)))
      (pss_cons (ps_asg (pe_op op_add (pe_ix ix_list (pv 0) pe_int (fun _ _ => rfl)) pe_int) (pg_sub (pv 0) pe_int set_list))
      (pss_one (ps_if (pt_cmpR op_ge (pv 2) (pe_op op_pow pe_int pe_int) (nomark _))
        (pss_one (ps_asg (pv 2) (pg_sub (pv 0) pe_int set_list)))
        (pss_one (ps_asg (pe_op op_mod (pe_callTy call_int1 (by rfl) mint (by decide +kernel) (pa_cons (pe_op op_add (pe_op op_add (pe_op op_mul (pe_ix ix_list (pv 0) pe_int (fun _ _ => rfl)) pe_int) (pe_op op_mul (pe_op op_mod (pe_callTy call_int1 (by rfl) mint (by decide +kernel) (pa_cons (pv 2) pa_nil)) pe_int) pe_int)) pe_int) pa_nil)) pe_int) (pg_sub (pv 0) pe_int set_list)))))))
      pss_nil)
    (pss_cons (ps_if (pt_cmpR op_gt (pe_ix ix_list (pv 0) pe_int (fun _ _ => rfl)) pe_int (nomark _))
      (pss_cons (ps_set (i := 3) scPull.nd rfl (Or.inl rfl) (pe_op op_mod (pe_callTy call_int1 (by rfl) mint (by decide +kernel) (pa_cons (pe_ix ix_list (pv 0) pe_int (fun _ _ => rfl)) pa_nil)) (pv 1)))
      (pss_cons (ps_asg (pe_op op_fdiv (pe_ix ix_list (pv 0) pe_int (fun _ _ => rfl)) (pv 1)) (pg_sub (pv 0) pe_int set_list))
      (pss_one (ps_ret (pv 3)))))
      pss_nil)
    (pss_cons (ps_asg (pe_op op_add (pe_ix ix_list (pv 0) pe_int (fun _ _ => rfl)) pe_int) (pg_sub (pv 0) pe_int set_list))
    (pss_cons (ps_set (i := 4) scPull.nd rfl (Or.inl rfl) (pe_ix ix_list (pv 0) pe_int (fun _ _ => rfl)))
    (pss_cons (ps_asg (pe_op op_mod (pe_callTy call_int1 (by rfl) mint (by decide +kernel) (pa_cons (pe_op op_add (pe_op op_add (pe_op op_add (pe_op op_mul (pe_op op_mul (pv 4) (pv 4)) pe_int) (pe_op op_mul (pv 4) pe_int)) (pe_op op_mul (pe_ix ix_list (pv 0) pe_int (fun _ _ => rfl)) pe_int)) pe_int) pa_nil)) pe_int) (pg_sub (pv 0) pe_int set_list))
    (pss_one (ps_ret (pe_op op_mod (pe_callTy call_int1 (by rfl) mint (by decide +kernel) (pa_cons (pe_op op_add (pe_op op_fdiv (pe_ix ix_list (pv 0) pe_int (fun _ _ => rfl)) pe_int) (pe_op op_mul (pe_op op_mod (pe_callTy call_int1 (by rfl) mint (by decide +kernel) (pa_cons (pe_ix ix_list (pv 0) pe_int (fun _ _ => rfl)) pa_nil)) pe_int) pe_int)) pa_nil)) (pv 1)))))))), ?_⟩
  have r0 : SqL K H b [.ref c, .int p, .int r, .int s, .int k] := SqL.of B.lb
  have rc : SqL K H c (ns.map V.int) := SqL.of B.lc
  refine ⟨fun σ' H2 => ∃ p r s k v2, σ' = [some (.ref b), some (.int many), v2, none, none] ∧ BagIs H2 b c ns p r s k ∧ Kp b H H2, ?_, ?_⟩
  · -- if bag[2] == 0 and bag[1] < len(bag[0])
    refine ⟨.ref b, rfl, b, _, 2, .int r, rfl, rfl, r0, rfl, rfl, _, rfl, ?_⟩
    refine ite2 (fun _ => ?_) (fun _ => ?_)
    case refine_2 => exact iteF ⟨p, r, s, k, none, rfl, B, Kp.refl b H⟩
    refine ⟨.ref b, rfl, b, _, 1, .int p, rfl, rfl, r0, rfl, .ref b, rfl, b, _, 0, .ref c, rfl, rfl, r0, rfl, c, _, rfl, .inl rc, p, _, rfl, rfl, _, rfl, ?_⟩
    refine ite2 (fun hp => ?_) (fun _ => ?_)
    case refine_2 => exact ⟨p, r, s, k, none, rfl, B, Kp.refl b H⟩
    have hp' : p < ((ns.map V.int).length : Int) := of_decide_eq_true hp
    rw [List.length_map] at hp'
    have hpn : p.toNat < ns.length := by have := B.p0; omega
    have hcell : atI (ns.map V.int) p = some (.int ns[p.toNat]) := by
      have e : p = ((p.toNat : Nat) : Int) := by have := B.p0; omega
      have q : atI (ns.map V.int) ((p.toNat : Nat) : Int) = some (.int ns[p.toNat]) := atI_nat (by rw [List.getElem?_map, List.getElem?_eq_getElem hpn] <;> rfl)
      rw [← e] at q
      exact q
    -- cell = bag[0][bag[1]]; bag[1] = bag[1] + 1
    refine ⟨.ref b, rfl, b, _, 0, .ref c, rfl, rfl, r0, rfl, .ref b, rfl, b, _, 1, .int p, rfl, rfl, r0, rfl, c, _, p, _, rfl, rfl, rc, hcell, ?_⟩
    refine ⟨.ref b, rfl, b, _, 1, .int p, rfl, rfl, r0, rfl, p, 1, rfl, rfl, .ref b, rfl, b, _, 1, 1, rfl, rfl, B.lb, rfl, ?_⟩
    have B1 : BagIs (upd H b (.lst [.ref c, .int (p + 1), .int r, .int s, .int k])) b c ns (p + 1) r s k := B.put (by have := B.p0; omega) B.s0 B.s1 B.r0
    have k1 : Kp b H (upd H b (.lst [.ref c, .int (p + 1), .int r, .int s, .int k])) := fun a o e n => by rw [upd_ne n]; exact e
    -- if cell >= 10 ** 18
    refine ⟨_, rfl, 10, 18, rfl, rfl, ⟨by decide, by decide, by decide⟩, _, _, rfl, rfl, _, rfl, ?_⟩
    refine ite2 (fun hg => ?_) (fun _ => ?_)
    · have hg' : ns[p.toNat] ≥ (10 : Int) ^ (18 : Int).toNat := of_decide_eq_true hg
      have hg0 : 0 ≤ ns[p.toNat] := Int.le_trans (by decide) hg'
      refine ⟨_, rfl, .ref b, rfl, b, _, 2, 2, rfl, rfl, B1.lb, rfl, ?_⟩
      have e1 : upd (upd H b (.lst [.ref c, .int (p + 1), .int r, .int s, .int k])) b (.lst [.ref c, .int (p + 1), .int ns[p.toNat], .int s, .int k]) = upd H b (.lst [.ref c, .int (p + 1), .int ns[p.toNat], .int s, .int k]) := upd_upd
      refine ⟨p + 1, ns[p.toNat], s, k, _, rfl, ?_, ?_⟩
      · exact B1.put B1.p0 B.s0 B.s1 hg0
      · exact k1.trans fun a o e n => by rw [upd_ne n]; exact e
    · refine ⟨.ref b, rfl, b, _, 3, .int s, rfl, rfl, SqL.of B1.lb, rfl, s, 48623, rfl, rfl, .inr ⟨by decide, by decide⟩, ?_⟩
      refine ⟨_, rfl, .inl ⟨_, rfl, ?_⟩⟩
      refine ⟨_, 2147483399, rfl, rfl, (by show (0 : Int) < 2147483399; decide), ?_⟩
      refine ⟨_, 15017, rfl, rfl, .inr ⟨by decide, by decide⟩, ?_⟩
      refine ⟨_, _, rfl, rfl, _, 31, rfl, rfl, .inl ⟨_, rfl, ?_⟩⟩
      refine ⟨_, 2147483563, rfl, rfl, (by show (0 : Int) < 2147483563; decide), ?_⟩
      refine ⟨.ref b, rfl, b, _, 3, 3, rfl, rfl, B1.lb, rfl, ?_⟩
      refine ⟨p + 1, r, _, k, _, rfl, B1.put B1.p0 ?_ ?_ B.r0, k1.trans fun a o e n => by rw [upd_ne n]; exact e⟩
      · exact Int.emod_nonneg _ (by decide)
      · exact Int.lt_trans (Int.emod_lt_of_pos _ (by decide)) (by decide)
  · rintro σ' H2 ⟨p, r, s, k, v2, rfl, B, kp⟩
    have r0 : SqL K H2 b [.ref c, .int p, .int r, .int s, .int k] := SqL.of B.lb
    -- if bag[2] > 0
    refine ⟨.ref b, rfl, b, _, 2, .int r, rfl, rfl, r0, rfl, _, _, rfl, rfl, _, rfl, ?_⟩
    refine ite2 (fun _ => ?_) (fun _ => ?_)
    · refine ⟨.ref b, rfl, b, _, 2, .int r, rfl, rfl, r0, rfl, .inl ⟨_, rfl, ?_⟩⟩
      refine ⟨_, rfl, _, _, rfl, rfl, m0, ?_⟩
      refine ⟨.ref b, rfl, b, _, 2, .int r, rfl, rfl, r0, rfl, _, rfl, _, _, rfl, rfl, ⟨m0, m1⟩, ?_⟩
      refine ⟨.ref b, rfl, b, _, 2, 2, rfl, rfl, B.lb, rfl, ?_⟩
      refine ⟨_, rfl, ?_⟩
      exact q _ _ (Int.emod_nonneg _ (by omega)) (Int.emod_lt_of_pos _ m0) ⟨ns, p, _, s, k, B.put B.p0 B.s0 B.s1 (Int.ediv_nonneg B.r0 (by omega))⟩ (kp.trans fun a o e n => by rw [upd_ne n]; exact e)
    · -- bag[4] = bag[4] + 1; seed = bag[3]
      refine ⟨.ref b, rfl, b, _, 4, .int k, rfl, rfl, r0, rfl, k, 1, rfl, rfl, .ref b, rfl, b, _, 4, 4, rfl, rfl, B.lb, rfl, ?_⟩
      have B1 : BagIs (upd H2 b (.lst [.ref c, .int p, .int r, .int s, .int (k + 1)])) b c ns p r s (k + 1) := B.put B.p0 B.s0 B.s1 B.r0
      have k1 : Kp b H (upd H2 b (.lst [.ref c, .int p, .int r, .int s, .int (k + 1)])) := kp.trans fun a o e n => by rw [upd_ne n]; exact e
      refine ⟨.ref b, rfl, b, _, 3, .int s, rfl, rfl, SqL.of B1.lb, rfl, ?_⟩
      have hs0 := B.s0
      have hs1 := B.s1
      refine ⟨_, rfl, _, rfl, _, _, rfl, rfl, .inl ⟨by omega, by omega⟩, _, 7, rfl, rfl, .inr ⟨by decide, by decide⟩, ?_⟩
      refine ⟨_, rfl, _, 31159, rfl, rfl, .inr ⟨by decide, by decide⟩, _, _, rfl, rfl, ?_⟩
      refine ⟨.ref b, rfl, b, _, 4, .int (k + 1), rfl, rfl, SqL.of B1.lb, rfl, _, 1299841, rfl, rfl, .inr ⟨by decide, by decide⟩, _, _, rfl, rfl, ?_⟩
      refine ⟨_, 70003, rfl, rfl, .inl ⟨_, rfl, ?_⟩⟩
      refine ⟨_, 2147483543, rfl, rfl, (by show (0 : Int) < 2147483543; decide), ?_⟩
      refine ⟨.ref b, rfl, b, _, 3, 3, rfl, rfl, B1.lb, rfl, ?_⟩
      have B2 := B1.put (p' := p) (r' := r) (k' := k + 1) B.p0 (Int.emod_nonneg (s * s * 7 + s * 31159 + (k + 1) * 1299841 + 70003) (show (2147483543 : Int) ≠ 0 by decide)) (Int.lt_trans (Int.emod_lt_of_pos _ (by decide)) (by decide)) B.r0
      refine ⟨.ref b, rfl, b, _, 3, _, rfl, rfl, SqL.of B2.lb, rfl, _, 73, rfl, rfl, ⟨by decide, by decide⟩, ?_⟩
      refine ⟨.ref b, rfl, b, _, 3, _, rfl, rfl, SqL.of B2.lb, rfl, .inl ⟨_, rfl, ?_⟩⟩
      refine ⟨_, 7919, rfl, rfl, (by show (0 : Int) < 7919; decide), _, 59, rfl, rfl, .inr ⟨by decide, by decide⟩, ?_⟩
      refine ⟨_, _, rfl, rfl, .inl ⟨_, rfl, ?_⟩⟩
      refine ⟨_, rfl, _, _, rfl, rfl, m0, ?_⟩
      exact q _ _ (Int.emod_nonneg _ (by omega)) (Int.emod_lt_of_pos _ m0) ⟨ns, p, _, _, _, B2⟩ (k1.trans fun a o e n => by rw [upd_ne n]; exact e)

/-! the bag is made -/
theorem cut_ints (ns : List Int) (lo hi : Option Int) : ∃ ms : List Int, cutV (ns.map V.int) lo hi = ms.map V.int ∧ ms.length ≤ ns.length := by
  refine ⟨(ns.drop (HT.sIx ns.length 0 lo)).take (HT.sIx ns.length ns.length hi - HT.sIx ns.length 0 lo), ?_, ?_⟩
  · unfold cutV
    rw [List.length_map, List.map_take, List.map_drop]
  · rw [List.length_take, List.length_drop]
    omega
def spBag (K : PySem.W.Frag) : Sp := fun vs H Q _ => ∃ (a : Addr) (ns : List Int), vs = [.ref a] ∧ SqL K H a (ns.map V.int) ∧ ns.length ≤ 63 ∧
  ∀ (b c : Addr) (H' : Hp), Same H H' → H b = none → H c = none → Bag H' b c → Q (.ref b) H'
theorem scBag : FnScope ["_law_script"] ["_law_script"] (defScope sBag) := ⟨rfl, rfl, rfl, by decide +kernel, rfl, by decide +kernel, by decide +kernel⟩
theorem ok_bag {f : Addr} {fd : FuncData} (F : Fun K "_law_bag" "_law_bag" sBag f fd) (mlen : mg "len" = none) (mlist : mg "list" = none) : FnOk P w K mg base CX0 1 f fd ["_law_script"] (spBag K) := by
  refine F.ok scBag (fun vs H Q E h => ?_) (fun cdv A outer s H vs Q E hr h => ?_)
  · obtain ⟨a, ns, rfl, _⟩ := h
    rfl
  obtain ⟨a, ns, rfl, hS, h63, q⟩ := h
  refine ⟨_, pss_one (ps_ret (pe_lst (pa_cons (pe_callTy call_list_of (by rfl) mlist (by decide +kernel) (pa_cons (pe_slice sl_list (pv 0) po_none (po_some pe_int)) pa_nil)) (pa_cons pe_int (pa_cons pe_int (pa_cons (pe_op op_add pe_int (pe_callB call_len_seq (by rfl) mlen PySem.boot_len (pa_cons (pv 0) pa_nil))) (pa_cons pe_int pa_nil))))))), ?_⟩
  obtain ⟨ms, em, hm⟩ := cut_ints ns none (some 63)
  refine ⟨_, rfl, 63, rfl, a, _, rfl, hS, fun x hx => ?_⟩
  rw [em]
  have s1 := same_upd hx (.lst (ms.map V.int))
  refine ⟨x, _, rfl, .inl (SqL.of upd_same), fun y hy => ?_⟩
  have s2 := s1.trans (same_upd hy (.lst (ms.map V.int)))
  refine ⟨_, rfl, a, _, rfl, .inl (s2.seq hS), _, _, rfl, rfl, (by show 5 ≤ sizeLine; decide), fun b hb => ?_⟩
  have hb0 : H b = none := s2.free hb
  have hyb : y ≠ b := fun e => by
    rw [← e, upd_same] at hb
    cases hb
  refine q b y _ (s2.trans (same_upd hb _)) hb0 (s1.free hy) ⟨ms, 0, 0, _, 0, upd_same, ?_, by omega, by decide, ?_, ?_, by decide⟩
  · rw [upd_ne hyb, upd_same]
  · show (0 : Int) ≤ 12002 + ((ns.map V.int).length : Int)
    omega
  · show 12002 + ((ns.map V.int).length : Int) < 2147483648
    rw [List.length_map]
    omega
/-! one of several things -/
theorem Kp.seqL {b : Addr} {H H' : Hp} (x : Kp b H H') {a : Addr} {xs : List V} (n : a ≠ b) (h : SqL K H a xs) : SqL K H' a xs := by
  rcases h with (h | ⟨o, h⟩) | h
  · exact .inl (.inl (x _ _ h n))
  · exact .inl (.inr ⟨o, x _ _ h n⟩)
  · exact .inr h
theorem Kp.seqT {b : Addr} {H H' : Hp} (x : Kp b H H') {a : Addr} {xs : List V} (n : a ≠ b) (h : SqT K H a xs) : SqT K H' a xs := by
  rcases h with (h | ⟨o, h⟩) | h
  · exact .inl (.inl (x _ _ h n))
  · exact .inl (.inr ⟨o, x _ _ h n⟩)
  · exact .inr h
/-- what may be drawn from -/
def Menu (K : PySem.W.Frag) (H : Hp) (b : Addr) (x : V) (its : List V) : Prop :=
  (∃ a, x = .ref a ∧ a ≠ b ∧ SqL K H a its) ∨ (∃ a, x = .ref a ∧ a ≠ b ∧ SqT K H a its) ∨ (∃ z : Str, x = .str z ∧ z.length ≤ sizeLine ∧ its = z.cps.toList.map (fun c => V.str ⟨#[c]⟩))
def spAny (K : PySem.W.Frag) : Sp := fun vs H Q _ => ∃ (b c : Addr) (x : V) (its : List V), vs = [.ref b, x] ∧ Bag H b c ∧ Menu K H b x its ∧ 0 < its.length ∧ its.length < 1073741824 ∧
  ∀ (y : V) (H' : Hp), y ∈ its → Bag H' b c → Kp b H H' → Q y H'
theorem scAny : FnScope ["_law_bag_here", "_law_things"] ["_law_bag_here", "_law_things"] (defScope sAny) := ⟨rfl, rfl, rfl, by decide +kernel, rfl, by decide +kernel, by decide +kernel⟩
theorem str_len (z : Str) : z.length = z.cps.toList.length := by
  show z.cps.size = _
  rw [Array.length_toList]
theorem ok_any {f g : Addr} {fd gd : FuncData} (F : Fun K "_law_any" "_law_any" sAny f fd) (G : FnOk P w K mg base CX0 1 g gd ["_law_bag_here", "_law_many"] spPull) (bG : Binds K gd ["_law_bag_here", "_law_many"] []) (kG : PySem.W.keepIn K (.ref g) = true) (mG : mg "_law_pull" = some (.ref g))
    (mlen : mg "len" = none) : FnOk P w K mg base CX0 2 f fd ["_law_bag_here", "_law_things"] (spAny K) := by
  refine F.ok scAny (fun vs H Q E h => ?_) (fun cdv A outer s H vs Q E hr h => ?_)
  · obtain ⟨b, c, x, its, rfl, _⟩ := h
    rfl
  obtain ⟨b, c, x, its, rfl, B, M, l0, l1, q⟩ := h
  refine ⟨_, pss_one (ps_ret (pe_ix ix_seq (pv 1) (pe_call G hr (by rfl) mG kG bG .nil pass0 (pa_cons (pv 0) (pa_cons (pe_callB call_len (by rfl) mlen PySem.boot_len (pa_cons (pv 1) pa_nil)) pa_nil))) (fun _ _ => rfl))), ?_⟩
  have hlen : LenV K x H its.length := by
    rcases M with ⟨a, rfl, _, h⟩ | ⟨a, rfl, _, h⟩ | ⟨z, rfl, hz, rfl⟩
    · exact .inl ⟨_, h, rfl⟩
    · exact .inr ⟨_, h, rfl⟩
    · exact ⟨hz, by rw [List.length_map, str_len]⟩
  refine ⟨x, rfl, .ref b, rfl, x, rfl, x, its.length, rfl, hlen, b, c, _, rfl, B, by omega, by omega, fun d H' d0 d1 B' kp => ?_⟩
  have hd : d.toNat < its.length := by omega
  have ed : d = ((d.toNat : Nat) : Int) := by omega
  have hat : atI its d = some its[d.toNat] := by
    have e : atI its ((d.toNat : Nat) : Int) = some its[d.toNat] := atI_nat (by rw [List.getElem?_eq_getElem hd])
    rw [← ed] at e
    exact e
  have fin : Q its[d.toNat] H' := q _ _ (List.getElem_mem hd) B' kp
  rcases M with ⟨a, rfl, na, h⟩ | ⟨a, rfl, na, h⟩ | ⟨z, rfl, hz, rfl⟩
  · exact .inl ⟨a, _, d, _, rfl, rfl, kp.seqL na h, hat, fin⟩
  · exact .inr (.inl ⟨a, _, d, _, rfl, rfl, kp.seqT na h, hat, fin⟩)
  · have hc : d.toNat < z.cps.toList.length := by
      rw [List.length_map] at hd
      exact hd
    have e : atI z.cps.toList ((d.toNat : Nat) : Int) = some z.cps.toList[d.toNat] := atI_nat (by rw [List.getElem?_eq_getElem hc])
    rw [← ed] at e
    have e2 : (z.cps.toList.map (fun c => V.str ⟨#[c]⟩))[d.toNat] = V.str ⟨#[z.cps.toList[d.toNat]]⟩ := by rw [List.getElem_map]
    rw [e2] at fin
    exact .inr (.inr ⟨z, d, _, rfl, rfl, hz, e, fin⟩)
/-! two values that are equal and of the same kinds -/
abbrev sSame : Stmt := top 51
def Leaf : V → Prop
  | .non => True | .bl _ => True | .int _ => True | .str _ => True | _ => False
def Eqv (H : Hp) : Nat → V → V → Prop
  | 0, x, y => Leaf x ∧ x = y
  | n + 1, x, y => (Leaf x ∧ x = y) ∨ ∃ (a b : Addr) (xs ys : List V), x = .ref a ∧ y = .ref b ∧ xs.length = ys.length ∧ xs.length ≤ 100000 ∧ ((H a = some (.lst xs) ∧ H b = some (.lst ys)) ∨ (H a = some (.tup xs) ∧ H b = some (.tup ys))) ∧
      ∀ (i : Nat) (u v : V), xs[i]? = some u → ys[i]? = some v → Eqv H n u v
theorem Eqv.same {H H' : Hp} (s : Same H H') : ∀ {n : Nat} {x y : V}, Eqv H n x y → Eqv H' n x y
  | 0, _, _, h => h
  | n + 1, _, _, h => by
    rcases h with h | ⟨a, b, xs, ys, e1, e2, l, z, h, k⟩
    · exact .inl h
    · refine .inr ⟨a, b, xs, ys, e1, e2, l, z, ?_, fun i u v hu hv => Eqv.same s (k i u v hu hv)⟩
      rcases h with ⟨h1, h2⟩ | ⟨h1, h2⟩
      · exact .inl ⟨s _ _ h1, s _ _ h2⟩
      · exact .inr ⟨s _ _ h1, s _ _ h2⟩
theorem Eqv.leaf {H : Hp} {x : V} (h : Leaf x) : ∀ n, Eqv H n x x
  | 0 => ⟨h, rfl⟩
  | _ + 1 => .inl ⟨h, rfl⟩
def spSame : Nat → Sp
  | 0 => fun _ _ _ _ => False
  | n + 1 => fun vs H Q _ => ∃ (x y : V), vs = [x, y] ∧ Eqv H n x y ∧ ∀ H', Same H H' → Q (.bl true) H'
theorem kitLT {K : PySem.W.Frag} {a : String} {r1 r2 : Bool} (h1 : kitB a "list" = some r1) (h2 : kitB a "tuple" = some r2) : PySem.W.kitAny K (.type a) [.type "list", .type "tuple"] = some (r1 || r2) := by
  cases r1 with
  | true => exact kitAny_cons (kit_ty h1) (fun z => nomatch z) (fun _ => rfl)
  | false =>
    refine kitAny_cons (kit_ty h1) (fun _ => ?_) (fun z => nomatch z)
    cases r2 with
    | true => exact kitAny_cons (kit_ty h2) (fun z => nomatch z) (fun _ => rfl)
    | false => exact kitAny_cons (kit_ty h2) (fun _ => kitAny_nil) (fun z => nomatch z)
/-- a comprehension over zip, turn by turn -/
theorem lc_zipL {K : PySem.W.Frag} {a b : Addr} {xs ys : List V} {g : TG} {te : TE} {vs : List Nat} {σ : L2.St} {H1 : Hp} {D : Addr} {Qd : Hp → Prop} (hl : xs.length = ys.length) (Pv : Nat → Hp → Prop) (h0 : Pv 0 (upd H1 D (.lst []))) (hq : ∀ i H, Pv i H → SqL K H a xs ∧ SqL K H b ys)
    (hs : ∀ (i : Nat) (x y : V) (T : Addr) (H : Hp), xs[i]? = some x → ys[i]? = some y → Pv i H → H T = none → g (.ref T) (wipe σ vs) (upd H T (.tup [x, y])) fun σ2 H2 => wipe σ2 vs = wipe σ vs ∧ te σ2 H2 fun y H4 => ∃ acc, H4 D = some (.lst acc) ∧ acc.length < sizeLine ∧ Pv (i + 1) (upd H4 D (.lst (acc ++ [y])))) (hd : ∀ H, Pv xs.length H → Qd H) :
    ∃ W : Nat → Nat → Hp → Prop, (∃ m, W 0 m (upd H1 D (.lst []))) ∧ ∀ i m H, W i m H →
      ((Itz K a b).stop i H ∧ Qd H) ∨ ((Itz K a b).go i H ∧ ∃ Nx : Hp → Prop, (∀ H', Nx H' → ∃ m', m' < m ∧ W (i + 1) m' H') ∧ ∀ x H', (Itz K a b).yld i H x H' → g x (wipe σ vs) H' fun σ2 H2 => wipe σ2 vs = wipe σ vs ∧ tYes σ2 H2 fun b H3 =>
        if b = true then te σ2 H3 fun y H4 => ∃ acc, H4 D = some (.lst acc) ∧ acc.length < sizeLine ∧ Nx (upd H4 D (.lst (acc ++ [y]))) else Nx H3) := by
  refine ⟨fun i m H => m = xs.length - i ∧ i ≤ xs.length ∧ Pv i H, ⟨xs.length, rfl, Nat.zero_le _, h0⟩, ?_⟩
  rintro i m H ⟨rfl, hi, p⟩
  obtain ⟨qx, qy⟩ := hq i H p
  by_cases hlt : i < xs.length
  · have hx : xs[i]? = some xs[i] := List.getElem?_eq_getElem hlt
    have hlt2 : i < ys.length := by omega
    have hy : ys[i]? = some ys[i] := List.getElem?_eq_getElem hlt2
    refine .inr ⟨⟨xs, ys, _, _, qx, qy, hx, hy⟩, Pv (i + 1), fun H' p' => ⟨xs.length - (i + 1), by omega, rfl, hlt, p'⟩, fun v H' y => ?_⟩
    obtain ⟨T, x', y', rfl, hT, rfl, f1, f2⟩ := y
    exact hs i x' y' T H (f1 xs qx) (f2 ys qy) p hT
  · have e : i = xs.length := by omega
    subst e
    exact .inl ⟨⟨xs, ys, qx, qy, Or.inl (Nat.le_refl _)⟩, hd H p⟩
theorem lc_zipT {K : PySem.W.Frag} {a b : Addr} {xs ys : List V} {g : TG} {te : TE} {vs : List Nat} {σ : L2.St} {H1 : Hp} {D : Addr} {Qd : Hp → Prop} (hl : xs.length = ys.length) (Pv : Nat → Hp → Prop) (h0 : Pv 0 (upd H1 D (.lst []))) (hq : ∀ i H, Pv i H → SqT K H a xs ∧ SqT K H b ys)
    (hs : ∀ (i : Nat) (x y : V) (T : Addr) (H : Hp), xs[i]? = some x → ys[i]? = some y → Pv i H → H T = none → g (.ref T) (wipe σ vs) (upd H T (.tup [x, y])) fun σ2 H2 => wipe σ2 vs = wipe σ vs ∧ te σ2 H2 fun y H4 => ∃ acc, H4 D = some (.lst acc) ∧ acc.length < sizeLine ∧ Pv (i + 1) (upd H4 D (.lst (acc ++ [y])))) (hd : ∀ H, Pv xs.length H → Qd H) :
    ∃ W : Nat → Nat → Hp → Prop, (∃ m, W 0 m (upd H1 D (.lst []))) ∧ ∀ i m H, W i m H →
      ((RZ.ItzT K a b).stop i H ∧ Qd H) ∨ ((RZ.ItzT K a b).go i H ∧ ∃ Nx : Hp → Prop, (∀ H', Nx H' → ∃ m', m' < m ∧ W (i + 1) m' H') ∧ ∀ x H', (RZ.ItzT K a b).yld i H x H' → g x (wipe σ vs) H' fun σ2 H2 => wipe σ2 vs = wipe σ vs ∧ tYes σ2 H2 fun b H3 =>
        if b = true then te σ2 H3 fun y H4 => ∃ acc, H4 D = some (.lst acc) ∧ acc.length < sizeLine ∧ Nx (upd H4 D (.lst (acc ++ [y]))) else Nx H3) := by
  refine ⟨fun i m H => m = xs.length - i ∧ i ≤ xs.length ∧ Pv i H, ⟨xs.length, rfl, Nat.zero_le _, h0⟩, ?_⟩
  rintro i m H ⟨rfl, hi, p⟩
  obtain ⟨qx, qy⟩ := hq i H p
  by_cases hlt : i < xs.length
  · have hx : xs[i]? = some xs[i] := List.getElem?_eq_getElem hlt
    have hlt2 : i < ys.length := by omega
    have hy : ys[i]? = some ys[i] := List.getElem?_eq_getElem hlt2
    refine .inr ⟨⟨xs, ys, _, _, qx, qy, hx, hy⟩, Pv (i + 1), fun H' p' => ⟨xs.length - (i + 1), by omega, rfl, hlt, p'⟩, fun v H' y => ?_⟩
    obtain ⟨T, x', y', rfl, hT, rfl, f1, f2⟩ := y
    exact hs i x' y' T H (f1 xs qx) (f2 ys qy) p hT
  · have e : i = xs.length := by omega
    subst e
    exact .inl ⟨⟨xs, ys, qx, qy, Or.inl (Nat.le_refl _)⟩, hd H p⟩
/-- the built-in names that _law_same reads -/
structure SameTxt (mg : Str → Option Value) : Prop where
  isi : mg "isinstance" = none
  list : mg "list" = none
  tuple : mg "tuple" = none
  len : mg "len" = none
  all : mg "all" = none
  zip : mg "zip" = none
  bool : mg "bool" = none
  int : mg "int" = none
  str : mg "str" = none
theorem scSame : FnScope ["_law_found", "_law_due", "_law_one", "_law_two"] ["_law_found", "_law_due"] (defScope sSame) := ⟨rfl, rfl, rfl, by decide +kernel, rfl, by decide +kernel, by decide +kernel⟩
theorem all_true (n : Nat) : (List.replicate n true).all id = true := by
  induction n with
  | zero => rfl
  | succ n ih => rw [List.replicate_succ, List.all_cons, ih]; rfl
theorem ok_same {f : Addr} {fd : FuncData} {n : Nat} (F : Fun K "_law_same" "_law_same" sSame f fd) (T : SameTxt mg) (G : FnOk P w K mg base CX0 n f fd ["_law_found", "_law_due"] (spSame n)) (bG : Binds K fd ["_law_found", "_law_due"] []) (kG : PySem.W.keepIn K (.ref f) = true) (mG : mg "_law_same" = some (.ref f)) :
    FnOk P w K mg base CX0 (n + 1) f fd ["_law_found", "_law_due"] (spSame (n + 1)) := by
  refine F.ok scSame (fun vs H Q E h => ?_) (fun cdv A outer s H vs Q E hr h => ?_)
  · obtain ⟨x, y, rfl, _⟩ := h
    rfl
  obtain ⟨x, y, rfl, e, q⟩ := h
  refine ⟨_, pss_cons (ps_if (pt_val (pe_callB call_isiT (by rfl) T.isi (by decide +kernel) (pa_cons (pv 1) (pa_cons (pe_tup (pa_cons (pe_bltn (v := .ty "list") (by rfl) T.list (by decide +kernel) rfl) (pa_cons (pe_bltn (v := .ty "tuple") (by rfl) T.tuple (by decide +kernel) rfl) pa_nil))) pa_nil))))
      (pss_cons (ps_if (PW.pt (pw_or (pt_cmpR op_ne (pe_callB call_isi (by rfl) T.isi (by decide +kernel) (pa_cons (pv 0) (pa_cons (pe_bltn (v := .ty "list") (by rfl) T.list (by decide +kernel) rfl) pa_nil))) (pe_callB call_isi (by rfl) T.isi (by decide +kernel) (pa_cons (pv 1) (pa_cons (pe_bltn (v := .ty "list") (by rfl) T.list (by decide +kernel) rfl) pa_nil))) (nomark _))
          (pw_or1 (pt_cmpR op_ne (pe_callB call_isi (by rfl) T.isi (by decide +kernel) (pa_cons (pv 0) (pa_cons (pe_bltn (v := .ty "tuple") (by rfl) T.tuple (by decide +kernel) rfl) pa_nil))) (pe_callB call_isi (by rfl) T.isi (by decide +kernel) (pa_cons (pv 1) (pa_cons (pe_bltn (v := .ty "tuple") (by rfl) T.tuple (by decide +kernel) rfl) pa_nil))) (nomark _)))))
          (pss_one (ps_ret pe_bl)) pss_nil)
      (pss_one (ps_ret (pe_and (pe_cmpR op_eq (pe_callB call_len_seq (by rfl) T.len PySem.boot_len (pa_cons (pv 0) pa_nil)) (pe_callB call_len_seq (by rfl) T.len PySem.boot_len (pa_cons (pv 1) pa_nil)) (nomark _)) (pe_one (pe_callB (cr_all rfl) (by rfl) T.all (by decide +kernel) (pa_cons
          (pe_lc (own := [("_law_one", 2), ("_law_two", 3)]) (g := gTup K 2 (gCons (gName 2) (gCons (gName 3) gNil))) rfl scSame.nd (RZ.pi_zipA (by rfl) T.zip (pa_cons (pv 0) (pa_cons (pv 1) pa_nil))) (blkOk_by (own := [("_law_one", 2), ("_law_two", 3)]) (N := ["_law_found", "_law_due", "_law_one", "_law_two"]) (sc := defScope sSame) (by decide +kernel))
            (fun _ _ _ _ _ => pg_tup (n := 2) rfl (pgs_cons (pg_name (i := 2) scSame.nd rfl (Or.inl rfl) (Or.inr rfl)) (pgs_cons (pg_name (i := 3) scSame.nd rfl (Or.inl rfl) (Or.inr rfl)) pgs_nil))) (fun _ _ _ _ _ => pts_nil)
            (fun _ _ _ _ _ => pe_call G hr (by rfl) mG kG bG .nil pass0 (pa_cons (pv 2) (pa_cons (pv 3) pa_nil)))) pa_nil)))))))
      pss_nil)
    (pss_cons (ps_if (PW.pt (pw_or (pt_cmpR op_isN (pv 1) pe_non (nomark _)) (pw_or1 (pt_cmpR op_isN (pv 0) pe_non (nomark _))))) (pss_one (ps_ret (pe_and (pe_cmpR op_isN (pv 1) pe_non (nomark _)) (pe_one (pe_cmpR op_isN (pv 0) pe_non (nomark _)))))) pss_nil)
    (pss_cons (ps_if (PW.pt (pw_or (pt_cmpR op_ne (pe_callB call_isi (by rfl) T.isi (by decide +kernel) (pa_cons (pv 0) (pa_cons (pe_bltn (v := .ty "bool") (by rfl) T.bool (by decide +kernel) rfl) pa_nil))) (pe_callB call_isi (by rfl) T.isi (by decide +kernel) (pa_cons (pv 1) (pa_cons (pe_bltn (v := .ty "bool") (by rfl) T.bool (by decide +kernel) rfl) pa_nil))) (nomark _))
          (pw_or1 (pt_cmpR op_ne (pe_callB call_isi (by rfl) T.isi (by decide +kernel) (pa_cons (pv 0) (pa_cons (pe_bltn (v := .ty "int") (by rfl) T.int (by decide +kernel) rfl) pa_nil))) (pe_callB call_isi (by rfl) T.isi (by decide +kernel) (pa_cons (pv 1) (pa_cons (pe_bltn (v := .ty "int") (by rfl) T.int (by decide +kernel) rfl) pa_nil))) (nomark _)))))
          (pss_one (ps_ret pe_bl)) pss_nil)
    (pss_one (ps_ret (pe_and (pe_cmpR op_eq (pe_callB call_isi (by rfl) T.isi (by decide +kernel) (pa_cons (pv 0) (pa_cons (pe_bltn (v := .ty "str") (by rfl) T.str (by decide +kernel) rfl) pa_nil))) (pe_callB call_isi (by rfl) T.isi (by decide +kernel) (pa_cons (pv 1) (pa_cons (pe_bltn (v := .ty "str") (by rfl) T.str (by decide +kernel) rfl) pa_nil))) (nomark _)) (pe_one (pe_cmpR op_eq (pv 0) (pv 1) (nomark _)))))))), ?_⟩
  have ht : ∀ t, H t = none → Same H (upd H t (.tup [.ty "list", .ty "tuple"])) := fun t h => same_upd h _
  have hz : ([V.ty "list", V.ty "tuple"] : List V).length ≤ sizeLine := by show 2 ≤ sizeLine; decide
  have kinds : (Leaf x ∧ x = y) ∨ ∃ (m : Nat) (a b : Addr) (xs ys : List V), n = m + 1 ∧ x = .ref a ∧ y = .ref b ∧ xs.length = ys.length ∧ xs.length ≤ 100000 ∧ ((H a = some (.lst xs) ∧ H b = some (.lst ys)) ∨ (H a = some (.tup xs) ∧ H b = some (.tup ys))) ∧
      ∀ (i : Nat) (u v : V), xs[i]? = some u → ys[i]? = some v → Eqv H m u v := by
    cases n with
    | zero => exact .inl e
    | succ m =>
      rcases e with e | ⟨a, b, xs, ys, e⟩
      · exact .inl e
      · exact .inr ⟨m, a, b, xs, ys, rfl, e⟩
  rcases kinds with ⟨lx, exy⟩ | ⟨m, a, b, xs, ys, rfl, rfl, rfl, hl, h100, hk, el⟩
  · subst exy
    cases x with
    | non =>
      refine ⟨_, rfl, hz, fun t h => ?_⟩
      refine ⟨_, t, _, _, [.type "list", .type "tuple"], _, rfl, upd_same, .cons (.ty _) (.cons (.ty _) .nil), (.base .non), kitLT (r1 := false) (r2 := false) (by decide +kernel) (by decide +kernel), ?_⟩
      refine ⟨_, rfl, iteF ?_⟩
      refine ⟨_, rfl, rfl, _, rfl, iteT ?_⟩
      refine ⟨_, rfl, rfl, _, rfl, iteT ?_⟩
      refine ⟨_, rfl, rfl, ?_⟩
      exact q _ (ht t h)
    | bl z =>
      refine ⟨_, rfl, hz, fun t h => ?_⟩
      refine ⟨_, t, _, _, [.type "list", .type "tuple"], _, rfl, upd_same, .cons (.ty _) (.cons (.ty _) .nil), (.base (.bl z)), kitLT (r1 := false) (r2 := false) (by decide +kernel) (by decide +kernel), ?_⟩
      refine ⟨_, rfl, iteF ?_⟩
      refine ⟨_, rfl, rfl, _, rfl, iteF ?_⟩
      refine ⟨_, rfl, rfl, _, rfl, iteF ?_⟩
      refine ⟨_, rfl, _, _, _, _, true, rfl, .ty _, (.base (.bl z)), kit_ty (by decide +kernel), _, rfl, _, _, _, _, true, rfl, .ty _, (.base (.bl z)), kit_ty (by decide +kernel), rfl, _, rfl, iteF ?_⟩
      refine ⟨_, rfl, _, _, _, _, true, rfl, .ty _, (.base (.bl z)), kit_ty (by decide +kernel), _, rfl, _, _, _, _, true, rfl, .ty _, (.base (.bl z)), kit_ty (by decide +kernel), rfl, _, rfl, iteF ?_⟩
      refine ⟨_, rfl, _, _, _, _, false, rfl, .ty _, (.base (.bl z)), kit_ty (by decide +kernel), _, rfl, _, _, _, _, false, rfl, .ty _, (.base (.bl z)), kit_ty (by decide +kernel), rfl, _, rfl, iteT ?_⟩
      refine ⟨_, rfl, _, rfl, rfl, ?_⟩
      rw [decide_eq_true rfl]
      exact q _ (ht t h)
    | int z =>
      refine ⟨_, rfl, hz, fun t h => ?_⟩
      refine ⟨_, t, _, _, [.type "list", .type "tuple"], _, rfl, upd_same, .cons (.ty _) (.cons (.ty _) .nil), (.base (.int z)), kitLT (r1 := false) (r2 := false) (by decide +kernel) (by decide +kernel), ?_⟩
      refine ⟨_, rfl, iteF ?_⟩
      refine ⟨_, rfl, rfl, _, rfl, iteF ?_⟩
      refine ⟨_, rfl, rfl, _, rfl, iteF ?_⟩
      refine ⟨_, rfl, _, _, _, _, false, rfl, .ty _, (.base (.int z)), kit_ty (by decide +kernel), _, rfl, _, _, _, _, false, rfl, .ty _, (.base (.int z)), kit_ty (by decide +kernel), rfl, _, rfl, iteF ?_⟩
      refine ⟨_, rfl, _, _, _, _, true, rfl, .ty _, (.base (.int z)), kit_ty (by decide +kernel), _, rfl, _, _, _, _, true, rfl, .ty _, (.base (.int z)), kit_ty (by decide +kernel), rfl, _, rfl, iteF ?_⟩
      refine ⟨_, rfl, _, _, _, _, false, rfl, .ty _, (.base (.int z)), kit_ty (by decide +kernel), _, rfl, _, _, _, _, false, rfl, .ty _, (.base (.int z)), kit_ty (by decide +kernel), rfl, _, rfl, iteT ?_⟩
      refine ⟨_, rfl, _, rfl, rfl, ?_⟩
      rw [decide_eq_true rfl]
      exact q _ (ht t h)
    | str z =>
      refine ⟨_, rfl, hz, fun t h => ?_⟩
      refine ⟨_, t, _, _, [.type "list", .type "tuple"], _, rfl, upd_same, .cons (.ty _) (.cons (.ty _) .nil), (.base (.str z)), kitLT (r1 := false) (r2 := false) (by decide +kernel) (by decide +kernel), ?_⟩
      refine ⟨_, rfl, iteF ?_⟩
      refine ⟨_, rfl, rfl, _, rfl, iteF ?_⟩
      refine ⟨_, rfl, rfl, _, rfl, iteF ?_⟩
      refine ⟨_, rfl, _, _, _, _, false, rfl, .ty _, (.base (.str z)), kit_ty (by decide +kernel), _, rfl, _, _, _, _, false, rfl, .ty _, (.base (.str z)), kit_ty (by decide +kernel), rfl, _, rfl, iteF ?_⟩
      refine ⟨_, rfl, _, _, _, _, false, rfl, .ty _, (.base (.str z)), kit_ty (by decide +kernel), _, rfl, _, _, _, _, false, rfl, .ty _, (.base (.str z)), kit_ty (by decide +kernel), rfl, _, rfl, iteF ?_⟩
      refine ⟨_, rfl, _, _, _, _, true, rfl, .ty _, (.base (.str z)), kit_ty (by decide +kernel), _, rfl, _, _, _, _, true, rfl, .ty _, (.base (.str z)), kit_ty (by decide +kernel), rfl, _, rfl, iteT ?_⟩
      refine ⟨_, rfl, _, rfl, rfl, ?_⟩
      rw [decide_eq_true rfl]
      exact q _ (ht t h)
    | _ => exact lx.elim
  · -- what a turn brings: the item's answer True is appended
    have turn : ∀ (D : Addr), H D = none → ∀ (i : Nat) (u v : V) (T : Addr) (H2 : Hp), xs[i]? = some u → ys[i]? = some v → (Same H H2 ∧ H2 D = some (.lst (List.replicate i (.bl true)))) → H2 T = none → True := fun _ _ _ _ _ _ _ _ _ _ _ => trivial
    rcases hk with ⟨ha, hb⟩ | ⟨ha, hb⟩
    · refine ⟨_, rfl, hz, fun t h => ?_⟩
      have s1 := ht t h
      refine ⟨_, t, _, _, [.type "list", .type "tuple"], _, rfl, upd_same, .cons (.ty _) (.cons (.ty _) .nil), (.base (.lst (s1 _ _ hb))), kitLT (r1 := true) (r2 := false) (by decide +kernel) (by decide +kernel), ?_⟩
      refine ⟨_, rfl, iteT ?_⟩
      refine ⟨_, rfl, _, _, _, _, true, rfl, .ty _, (.base (.lst (s1 _ _ ha))), kit_ty (by decide +kernel), _, rfl, _, _, _, _, true, rfl, .ty _, (.base (.lst (s1 _ _ hb))), kit_ty (by decide +kernel), rfl, _, rfl, iteF ?_⟩
      refine ⟨_, rfl, _, _, _, _, false, rfl, .ty _, (.base (.lst (s1 _ _ ha))), kit_ty (by decide +kernel), _, rfl, _, _, _, _, false, rfl, .ty _, (.base (.lst (s1 _ _ hb))), kit_ty (by decide +kernel), rfl, _, rfl, iteF ?_⟩
      refine ⟨_, rfl, a, _, rfl, .inl (SqL.of (s1 _ _ ha)), _, rfl, b, _, rfl, .inl (SqL.of (s1 _ _ hb)), rfl, _, rfl, ?_⟩
      rw [show decide (V.int ((xs.length : Nat) : Int) = V.int ((ys.length : Nat) : Int)) = true from decide_eq_true (by rw [hl])]
      refine iteT ?_
      refine ⟨_, rfl, _, rfl, a, b, xs, ys, rfl, .inl ⟨SqL.of (s1 _ _ ha), SqL.of (s1 _ _ hb), fun D hD => ?_⟩⟩
      have s2 := s1.trans (same_upd hD (.lst []))
      refine lc_zipL hl (fun i H2 => Same H H2 ∧ H2 D = some (.lst (List.replicate i (.bl true)))) ⟨s2, upd_same⟩ (fun i H2 ⟨s3, _⟩ => ⟨SqL.of (s3 _ _ ha), SqL.of (s3 _ _ hb)⟩) (fun i u v T H2 hu hv ⟨s3, hD2⟩ hT => ?_) (fun H2 ⟨s3, hD2⟩ => ?_)
      · refine ⟨T, [u, v], rfl, SqT.of upd_same, rfl, u, [v], rfl, v, [], rfl, rfl, rfl, ?_⟩
        have s4 := s3.trans (same_upd hT (.tup [u, v]))
        refine ⟨_, rfl, _, rfl, u, v, rfl, (el i u v hu hv).same s4, fun H3 s5 => ?_⟩
        have hDT : D ≠ T := ne_of_none hD2 hT
        refine ⟨_, s5 _ _ (by rw [upd_ne hDT]; exact hD2), ?_, fun c o e => ?_, ?_⟩
        · rw [List.length_replicate]
          have : i < xs.length := (List.getElem?_eq_some_iff.mp hu).1
          exact Nat.lt_of_lt_of_le (show i < 100000 by omega) (by decide)
        · have nc : c ≠ D := ne_of_none e (s1.free hD)
          rw [upd_ne nc]
          exact s5 _ _ (s4 _ _ e)
        · rw [upd_same, ← List.replicate_succ']
      · refine ⟨D, List.replicate xs.length true, rfl, SqL.of (by rw [hD2, List.map_replicate]), ?_⟩
        rw [all_true]
        exact q _ s3
    · refine ⟨_, rfl, hz, fun t h => ?_⟩
      have s1 := ht t h
      refine ⟨_, t, _, _, [.type "list", .type "tuple"], _, rfl, upd_same, .cons (.ty _) (.cons (.ty _) .nil), (.base (.tup (s1 _ _ hb))), kitLT (r1 := false) (r2 := true) (by decide +kernel) (by decide +kernel), ?_⟩
      refine ⟨_, rfl, iteT ?_⟩
      refine ⟨_, rfl, _, _, _, _, false, rfl, .ty _, (.base (.tup (s1 _ _ ha))), kit_ty (by decide +kernel), _, rfl, _, _, _, _, false, rfl, .ty _, (.base (.tup (s1 _ _ hb))), kit_ty (by decide +kernel), rfl, _, rfl, iteF ?_⟩
      refine ⟨_, rfl, _, _, _, _, true, rfl, .ty _, (.base (.tup (s1 _ _ ha))), kit_ty (by decide +kernel), _, rfl, _, _, _, _, true, rfl, .ty _, (.base (.tup (s1 _ _ hb))), kit_ty (by decide +kernel), rfl, _, rfl, iteF ?_⟩
      refine ⟨_, rfl, a, _, rfl, .inr (SqT.of (s1 _ _ ha)), _, rfl, b, _, rfl, .inr (SqT.of (s1 _ _ hb)), rfl, _, rfl, ?_⟩
      rw [show decide (V.int ((xs.length : Nat) : Int) = V.int ((ys.length : Nat) : Int)) = true from decide_eq_true (by rw [hl])]
      refine iteT ?_
      refine ⟨_, rfl, _, rfl, a, b, xs, ys, rfl, .inr ⟨SqT.of (s1 _ _ ha), SqT.of (s1 _ _ hb), fun D hD => ?_⟩⟩
      have s2 := s1.trans (same_upd hD (.lst []))
      refine lc_zipT hl (fun i H2 => Same H H2 ∧ H2 D = some (.lst (List.replicate i (.bl true)))) ⟨s2, upd_same⟩ (fun i H2 ⟨s3, _⟩ => ⟨SqT.of (s3 _ _ ha), SqT.of (s3 _ _ hb)⟩) (fun i u v T H2 hu hv ⟨s3, hD2⟩ hT => ?_) (fun H2 ⟨s3, hD2⟩ => ?_)
      · refine ⟨T, [u, v], rfl, SqT.of upd_same, rfl, u, [v], rfl, v, [], rfl, rfl, rfl, ?_⟩
        have s4 := s3.trans (same_upd hT (.tup [u, v]))
        refine ⟨_, rfl, _, rfl, u, v, rfl, (el i u v hu hv).same s4, fun H3 s5 => ?_⟩
        have hDT : D ≠ T := ne_of_none hD2 hT
        refine ⟨_, s5 _ _ (by rw [upd_ne hDT]; exact hD2), ?_, fun c o e => ?_, ?_⟩
        · rw [List.length_replicate]
          have : i < xs.length := (List.getElem?_eq_some_iff.mp hu).1
          exact Nat.lt_of_lt_of_le (show i < 100000 by omega) (by decide)
        · have nc : c ≠ D := ne_of_none e (s1.free hD)
          rw [upd_ne nc]
          exact s5 _ _ (s4 _ _ e)
        · rw [upd_same, ← List.replicate_succ']
      · refine ⟨D, List.replicate xs.length true, rfl, SqL.of (by rw [hD2, List.map_replicate]), ?_⟩
        rw [all_true]
        exact q _ s3
theorem no_same {f : Addr} {fd : FuncData} : FnOk P w K mg base CX0 0 f fd ["_law_found", "_law_due"] (spSame 0) :=
  ⟨fun vs H Q E h => False.elim h, fun A outer s H args us vs Q E _ _ _ _ h => False.elim h⟩
theorem all_same {f : Addr} {fd : FuncData} (F : Fun K "_law_same" "_law_same" sSame f fd) (T : SameTxt mg) (bG : Binds K fd ["_law_found", "_law_due"] []) (mG : mg "_law_same" = some (.ref f)) :
    ∀ n, FnOk P w K mg base CX0 n f fd ["_law_found", "_law_due"] (spSame n)
  | 0 => no_same
  | n + 1 => ok_same F T (all_same F T bG mG n) bG F.kp mG
/-! ### a call by keywords alone -/
open PySem.Spec PyProof.Rows in
theorem pe_callN0 {X : Cx} {CX : CXT} {k : Nat} {f : Addr} {fd : FuncData} {ps ks : List Str} {sp : Sp} {E : XK} {x : Str} {p pos : Pos} {kws : List Keyword} {tk : TA} {g : List Value → List Value → List Value} {gV : List V → List V → List V}
    (F : FnOk X.prog X.w X.K X.mg X.base CX k f fd ps sp) (hr : Room k X.A) (hg : Gl X x) (hm : X.mg x = some (.ref f)) (hk : PySem.W.keepIn X.K (.ref f) = true) (hb : KBn X.K fd ps 0 ks g gV) (hx : Passes CX X E)
    (hkw : PK X kws tk) (hall : (backToKw pos (keywordEach kws X.env)).all (·.1.isSome) = true := by rfl) (hks : (backToKw pos (keywordEach kws X.env)).filterMap (·.1) = ks := by rfl)
    (hdb : (x == ("__debug__" : Str)) = false := by decide) (hpl : ((backTo pos (starEach [] X.env)).any (·.1) || (backToKw pos (keywordEach kws X.env)).any (·.1.isNone)) = false := by rfl) :
    PE X (.Call (.Name x p) [] kws pos) (tCallN 0 ks.length sp gV E tNil tk) := by
  refine ⟨fun pins s σ H Q I h => ?_⟩
  refine wpAny_Call_Name_kw (ld_glob I hg hm ?_ hdb)
  refine PySem.W.callWith_KW0 (h₀ := X.base) I.ok.mod.kin hk hall ?_ hpl
  refine thn (hkw.run pos pins s σ H _ I h) fun ws s2 ⟨zs, H2, I2, rz, l1, l2, q2⟩ => ⟨I2.kIn, ?_⟩
  rw [hks]
  exact run_fnN (us := []) (vs := []) F hr hb hx I2 .nil rz rfl l2 q2
theorem Fun.kbn {x qual : Str} {st : Stmt} {f : Addr} {fd : FuncData} {ps : List Str} (F : Fun K x qual st f fd) (n : Nat) (ks : List Str) (g : List Value → List Value → List Value) (gV : List V → List V → List V)
    (hrel : ∀ {vs : List V} {us : List Value} {zs : List V} {ws : List Value}, Vals vs us → Vals zs ws → Vals (gV vs zs) (g us ws))
    (h : ∀ (kV doc pm : Value) (an : Option Addr) (cdv ct : Value) (us ws : List Value), us.length = n → ws.length = ks.length → bindArgs (PySem.W.fnOf x qual (defArgs st) (defBody st) (defScope st) .none kV doc pm an cdv ct) ⟨us, ks.zip ws⟩ = pure (ps.zip (g us ws))) : KBn K fd ps n ks g gV := by
  obtain ⟨oc, od, kV, doc, pm, an, cdv, ct, osl, rfl, lk, hcd⟩ := F.ex
  exact ⟨fun s us ws _ l1 l2 => BindsTo.of_eq (h kV doc pm an cdv ct us ws l1 l2), hrel⟩
theorem Vals.rev {xs : List V} {us : List Value} (r : Vals xs us) : Vals xs.reverse us.reverse := by
  induction r with
  | nil => exact .nil
  | cons h t ih =>
    rw [List.reverse_cons, List.reverse_cons]
    exact ih.append (.cons h .nil)
/-- a def of the text, what it keeps, how it is called -/
structure Df (P : Program) (w : World) (K : PySem.W.Frag) (mg : Str → Option Value) (base : Heap) (k : Nat) (f : Addr) (fd : FuncData) (x : Str) (ps : List Str) (sp : Sp) : Prop where
  ok : FnOk P w K mg base CX0 k f fd ps sp
  b : Binds K fd ps []
  kp : PySem.W.keepIn K (.ref f) = true
  m : mg x = some (.ref f)
abbrev letters : Str := "abcdefghijklmnopqrstuvwxyz"
def lowB (z : Str) : Bool := z.cps.toList.all fun c => decide (c ∈ letters.cps.toList)
/-- a comprehension over a text, sign by sign -/
theorem lc_str {z : Str} {g : TG} {te : TE} {vs : List Nat} {σ : L2.St} {H1 : Hp} {D : Addr} {Qd : Hp → Prop} (Pv : Nat → Hp → Prop) (h0 : Pv 0 (upd H1 D (.lst [])))
    (hs : ∀ (i : Nat) (c : Nat) (H : Hp), z.cps.toList[i]? = some c → Pv i H → g (.str ⟨#[c]⟩) (wipe σ vs) H fun σ2 H2 => wipe σ2 vs = wipe σ vs ∧ te σ2 H2 fun y H4 => ∃ acc, H4 D = some (.lst acc) ∧ acc.length < sizeLine ∧ Pv (i + 1) (upd H4 D (.lst (acc ++ [y])))) (hd : ∀ H, Pv z.cps.toList.length H → Qd H) :
    ∃ W : Nat → Nat → Hp → Prop, (∃ m, W 0 m (upd H1 D (.lst []))) ∧ ∀ i m H, W i m H →
      ((Its z).stop i H ∧ Qd H) ∨ ((Its z).go i H ∧ ∃ Nx : Hp → Prop, (∀ H', Nx H' → ∃ m', m' < m ∧ W (i + 1) m' H') ∧ ∀ x H', (Its z).yld i H x H' → g x (wipe σ vs) H' fun σ2 H2 => wipe σ2 vs = wipe σ vs ∧ tYes σ2 H2 fun b H3 =>
        if b = true then te σ2 H3 fun y H4 => ∃ acc, H4 D = some (.lst acc) ∧ acc.length < sizeLine ∧ Nx (upd H4 D (.lst (acc ++ [y]))) else Nx H3) := by
  have hsz : z.cps.size = z.cps.toList.length := (Array.length_toList).symm
  refine ⟨fun i m H => m = z.cps.toList.length - i ∧ i ≤ z.cps.toList.length ∧ Pv i H, ⟨z.cps.toList.length, rfl, Nat.zero_le _, h0⟩, ?_⟩
  rintro i m H ⟨rfl, hi, p⟩
  by_cases hlt : i < z.cps.toList.length
  · refine .inr ⟨(by show i < z.cps.size; omega), Pv (i + 1), fun H' p' => ⟨z.cps.toList.length - (i + 1), by omega, rfl, hlt, p'⟩, fun v H' y => ?_⟩
    obtain ⟨rfl, c, hc, rfl⟩ := y
    refine hs i c H' ?_ p
    rw [Array.getElem?_toList]
    exact hc
  · have e : i = z.cps.toList.length := by omega
    subst e
    exact .inl ⟨(by show z.cps.size ≤ _; omega), hd H p⟩
theorem kSq {z : Str} {i : Nat} {c : Nat} (f : Nat → Bool) (h : z.cps.toList[i]? = some c) : (z.cps.toList.take (i + 1)).map f = (z.cps.toList.take i).map f ++ [f c] := by
  rw [List.take_add_one, h, List.map_append]
  rfl
/-! ### names -/
abbrev sNames : Stmt := top 53
theorem tlen (z : Str) : z.length = (tl z).length := str_len z
theorem lowB_tl (z : Str) : lowB z = (tl z).all fun c => decide (c ∈ letters.cps.toList) := rfl
theorem lowB_of {z : Str} (h : ∀ c ∈ tl z, c ∈ letters.cps.toList) : lowB z = true := by
  rw [lowB_tl, List.all_eq_true]
  intro c hc
  exact decide_eq_true (h c hc)
theorem tl_cut (z : Str) (lo hi : Option Int) : tl (cutS z lo hi) = ((tl z).drop (HT.sIx z.length 0 lo)).take (HT.sIx z.length z.length hi - HT.sIx z.length 0 lo) := rfl
theorem tl_cut_to (z : Str) (k : Int) (h0 : 0 ≤ k) (h1 : k ≤ (z.length : Int)) : tl (cutS z none (some k)) = (tl z).take k.toNat := by
  obtain ⟨n, rfl⟩ : ∃ n : Nat, k = (n : Int) := ⟨k.toNat, by omega⟩
  rw [tl_cut, HT.sIx_none, HT.sIx_nat, List.drop_zero, Nat.sub_zero, Int.toNat_natCast, Nat.min_eq_left (by omega)]
theorem tl_cut_from (z : Str) (k : Int) (h0 : 0 ≤ k) (h1 : k ≤ (z.length : Int)) : tl (cutS z (some k) none) = (tl z).drop k.toNat := by
  obtain ⟨n, rfl⟩ : ∃ n : Nat, k = (n : Int) := ⟨k.toNat, by omega⟩
  rw [tl_cut, HT.sIx_none, HT.sIx_nat, Int.toNat_natCast, Nat.min_eq_left (by omega), List.take_of_length_le]
  rw [List.length_drop, tlen]
  exact Nat.le_refl _
theorem glue_signs : ∀ cs : List Nat, tl (Txt.join Str.empty (cs.map fun c => (⟨#[c]⟩ : Str))) = cs := by
  have h : ∀ cs : List Nat, joinL [] (cs.map fun c => [c]) = cs := by
    intro cs
    induction cs with
    | nil => rfl
    | cons x r ih =>
      cases r with
      | nil => rfl
      | cons y r => 
        show [x] ++ ([] ++ joinL [] ((y :: r).map fun c => [c])) = x :: y :: r
        rw [ih]
        rfl
  intro cs
  show tl (Builtin.Str.glued _ _) = _
  rw [StrLaws.glued_eq_join, tl_join, List.map_map]
  exact h cs
structure IsNm (z : Str) : Prop where
  low : ∀ c ∈ tl z, c ∈ letters.cps.toList
  l1 : 1 ≤ z.length
  l4 : z.length ≤ 4
def spNames : Sp := fun vs H Q _ => ∃ (b c : Addr) (many : Int), vs = [.ref b, .int many] ∧ Bag H b c ∧ 0 ≤ many ∧ many ≤ 26 ∧
  ∀ (l : Addr) (ws : List Str) (H' : Hp), (ws.length : Int) = many → (∀ z ∈ ws, IsNm z) → Bag H' b c → Kp b H H' → H l = none → H' l = some (.lst (ws.map V.str)) → Q (.ref l) H'
theorem Kp.new {b p : Addr} {H H' : Hp} (k : Kp b H H') (hp : H' p = none) (o : HO) : Kp b H (upd H' p o) := fun a u h n => by rw [upd_ne (ne_of_none (k a u h n) hp)]; exact k a u h n
theorem Kp.free {b c p : Addr} {H H' : Hp} (k : Kp b H H') (B : Bag H' b c) (hp : H' p = none) : H p = none := by
  have hb : p ≠ b := B.fresh hp
  cases e : H p with
  | none => rfl
  | some o =>
    rw [k p o e hb] at hp
    cases hp
theorem Bag.ne_new {H : Hp} {b c q : Addr} (B : Bag H b c) (h : H q = none) : b ≠ q ∧ c ≠ q := by
  obtain ⟨ns, p, r, s, k, B⟩ := B
  exact ⟨ne_of_none B.lb h, ne_of_none B.lc h⟩
theorem Bag.wr {H : Hp} {b c q : Addr} (B : Bag H b c) (n : b ≠ q ∧ c ≠ q) (o : HO) : Bag (upd H q o) b c := by
  obtain ⟨ns, p, r, s, k, B⟩ := B
  exact ⟨ns, p, r, s, k, by rw [upd_ne n.1]; exact B.lb, by rw [upd_ne n.2]; exact B.lc, B.nl, B.p0, B.s0, B.s1, B.r0⟩
theorem Kp.wr {b p : Addr} {H H' : Hp} (k : Kp b H H') (hp : H p = none) (o : HO) : Kp b H (upd H' p o) := fun a u h n => by rw [upd_ne (ne_of_none h hp)]; exact k a u h n
theorem scNames : FnScope ["_law_bag_here", "_law_many", "_law_letters", "_law_stem", "_law_at", "_law_first", "_law_k"] ["_law_bag_here", "_law_many"] (defScope sNames) := ⟨rfl, rfl, rfl, by decide +kernel, rfl, by decide +kernel, by decide +kernel⟩
theorem ok_names {f gp ga : Addr} {fd gpd gad : FuncData} (F : Fun K "_law_names" "_law_names" sNames f fd) (GP : FnOk P w K mg base CX0 1 gp gpd ["_law_bag_here", "_law_many"] spPull) (bP : Binds K gpd ["_law_bag_here", "_law_many"] []) (kP : PySem.W.keepIn K (.ref gp) = true) (mP : mg "_law_pull" = some (.ref gp))
    (GA : FnOk P w K mg base CX0 2 ga gad ["_law_bag_here", "_law_things"] (spAny K)) (bA : Binds K gad ["_law_bag_here", "_law_things"] []) (kA : PySem.W.keepIn K (.ref ga) = true) (mA : mg "_law_any" = some (.ref ga)) (mlen : mg "len" = none) (mint : mg "int" = none) (mrange : mg "range" = none) :
    FnOk P w K mg base CX0 3 f fd ["_law_bag_here", "_law_many"] spNames := by
  refine F.ok scNames (fun vs H Q E h => ?_) (fun cdv A outer s H vs Q E hr h => ?_)
  · obtain ⟨b, c, many, rfl, _⟩ := h
    rfl
  obtain ⟨b, c, many, rfl, B, m0, m1, q⟩ := h
  have hr1 : Room 1 _ := hr.mono (by decide)
  refine ⟨_, pss_cons (ps_set (i := 2) scNames.nd rfl (Or.inr rfl) pe_str)
    (pss_cons (ps_set (i := 3) scNames.nd rfl (Or.inr rfl) (pe_join pe_str (pe_lc (own := [("_law_k", 6)]) (g := gName 6) rfl scNames.nd (pi_range1 (by rfl) mrange (pa_cons (pe_call GP hr1 (by rfl) mP kP bP .nil pass0 (pa_cons (pv 0) (pa_cons pe_int pa_nil))) pa_nil))
        (blkOk_by (own := [("_law_k", 6)]) (N := ["_law_bag_here", "_law_many", "_law_letters", "_law_stem", "_law_at", "_law_first", "_law_k"]) (sc := defScope sNames) (by decide +kernel))
        (fun _ _ _ _ _ => pg_name (i := 6) scNames.nd rfl (Or.inl rfl) (Or.inr rfl)) (fun _ _ _ _ _ => pts_nil)
        (fun _ _ _ _ _ => pe_call GA hr (by rfl) mA kA bA .nil pass0 (pa_cons (pv 0) (pa_cons (pv 2) pa_nil))))))
    (pss_cons (ps_asg (pe_tup (pa_cons (pe_call GP hr1 (by rfl) mP kP bP .nil pass0 (pa_cons (pv 0) (pa_cons (pe_op op_add (pe_callB call_len (by rfl) mlen PySem.boot_len (pa_cons (pv 3) pa_nil)) pe_int) pa_nil))) (pa_cons (pe_call GP hr1 (by rfl) mP kP bP .nil pass0 (pa_cons (pv 0) (pa_cons pe_int pa_nil))) pa_nil)))
        (pg_tup (n := 2) rfl (pgs_cons (pg_name (i := 4) scNames.nd rfl (Or.inr rfl) (Or.inl rfl)) (pgs_cons (pg_name (i := 5) scNames.nd rfl (Or.inr rfl) (Or.inl rfl)) pgs_nil))))
    (pss_one (ps_ret (pe_lc (own := [("_law_k", 6)]) (g := gName 6) rfl scNames.nd (pi_range1 (by rfl) mrange (pa_cons (pv 1) pa_nil))
        (blkOk_by (own := [("_law_k", 6)]) (N := ["_law_bag_here", "_law_many", "_law_letters", "_law_stem", "_law_at", "_law_first", "_law_k"]) (sc := defScope sNames) (by decide +kernel))
        (fun _ _ _ _ _ => pg_name (i := 6) scNames.nd rfl (Or.inl rfl) (Or.inr rfl)) (fun _ _ _ _ _ => pts_nil)
        (fun _ _ _ _ _ => pe_op op_add_str (pe_op op_add_str (pe_slice sl_str (pv 3) po_none (po_some (pv 4)))
          (pe_ix ix_str (pv 2) (pe_op op_mod (pe_callTy call_int1 (by rfl) mint (by decide +kernel) (pa_cons (pe_op op_add (pv 5) (pe_op op_mul pe_int (pv 6))) pa_nil)) pe_int) (fun _ _ => rfl)))
          (pe_slice sl_str (pv 3) (po_some (pv 4)) po_none))))))), ?_⟩
  -- the stem: letters drawn
  refine ⟨⟨_, rfl⟩, .ref b, rfl, b, c, 4, rfl, B, by decide, by decide, fun d H1 d0 d1 B1 k1 => ?_⟩
  refine ⟨d, rfl, by omega, by omega, fun D hD => ?_⟩
  have nD := B1.ne_new hD
  have hD0 : H D = none := k1.free B1 hD
  refine lc_range (lo := 0) (n := d.toNat) (fun i H2 => Bag H2 b c ∧ Kp b H H2 ∧ ∃ cs : List Nat, cs.length = i ∧ (∀ x ∈ cs, x ∈ letters.cps.toList) ∧ H2 D = some (.lst (cs.map fun x => V.str ⟨#[x]⟩)))
    ⟨B1.upd_new hD _, k1.new hD _, [], rfl, fun x hx => (nomatch hx), upd_same⟩ (fun i H2 hi ⟨B2, k2, cs, hl, hcs, hcD⟩ => ?_) (fun H2 ⟨B2, k2, cs, hl, hcs, hcD⟩ => ?_)
  · refine ⟨rfl, .ref b, rfl, .str letters, rfl, b, c, _, _, rfl, B2, .inr (.inr ⟨letters, rfl, by decide +kernel, rfl⟩), by decide +kernel, by decide +kernel, fun y H3 hy B3 k3 => ?_⟩
    obtain ⟨x, hx, rfl⟩ := List.mem_map.mp hy
    refine ⟨_, k3 _ _ hcD nD.1.symm, ?_, B3.wr nD _, (k2.trans k3).wr hD0 _, cs ++ [x], by rw [List.length_append, hl]; rfl, fun z hz => ?_, ?_⟩
    · rw [List.length_map, hl]
      exact small1000 (by omega)
    · rcases List.mem_append.mp hz with h | h
      · exact hcs z h
      · rw [List.mem_singleton.mp h]
        exact hx
    · rw [upd_same, List.map_append]
      rfl
  · have ey : (cs.map fun x => V.str ⟨#[x]⟩) = ((cs.map fun x => (⟨#[x]⟩ : Str)).map V.str) := by rw [List.map_map]; rfl
    have hlen : cs.length ≤ 3 := by omega
    have hsum : ∀ l : List Nat, ((l.map fun x => (⟨#[x]⟩ : Str)).map (·.length)).sum = l.length := by
      intro l
      induction l with
      | nil => rfl
      | cons x r ih =>
        rw [List.map_cons, List.map_cons, List.sum_cons, ih, List.length_cons]
        show 1 + r.length = _
        omega
    refine ⟨Str.empty, D, cs.map fun x => ⟨#[x]⟩, rfl, rfl, .inl (SqL.of (by rw [hcD, ey])), ?_, ?_⟩
    · rw [hsum]
      show cs.length + _ * 0 ≤ _
      omega
    generalize hst : Txt.join Str.empty (cs.map fun x => (⟨#[x]⟩ : Str)) = st
    have est : tl st = cs := by rw [← hst, glue_signs]
    have lst : st.length = cs.length := by rw [tlen, est]
    -- at, first
    refine ⟨.ref b, rfl, .str st, rfl, .str st, _, rfl, ⟨Nat.le_of_lt (small1000 (by omega)), rfl⟩, _, _, rfl, rfl, b, c, _, rfl, B2, by omega, by omega, fun a1 H3 a0 a1' B3 k3 => ?_⟩
    refine ⟨.ref b, rfl, b, c, 26, rfl, B3, by decide, by decide, fun f1 H4 f0 f1' B4 k4 => ?_⟩
    refine ⟨(by show 2 ≤ sizeLine; decide), fun t ht => ?_⟩
    refine ⟨t, _, rfl, SqT.of upd_same, rfl, _, _, rfl, _, _, rfl, rfl, ?_⟩
    have k5 : Kp b H (upd H4 t (.tup [.int a1, .int f1])) := ((k2.trans k3).trans k4).new ht _
    have B5 : Bag (upd H4 t (.tup [.int a1, .int f1])) b c := B4.upd_new ht _
    -- the names
    refine ⟨_, rfl, many, rfl, by omega, by omega, fun L hL => ?_⟩
    have nL := B5.ne_new hL
    have hL0 : H L = none := k5.free B5 hL
    refine lc_range (lo := 0) (n := many.toNat) (fun i H6 => Bag H6 b c ∧ Kp b H H6 ∧ ∃ ws : List Str, ws.length = i ∧ (∀ z ∈ ws, IsNm z) ∧ H6 L = some (.lst (ws.map V.str)))
      ⟨B5.upd_new hL _, k5.new hL _, [], rfl, fun x hx => (nomatch hx), upd_same⟩ (fun i H6 hi ⟨B6, k6, ws, hl6, hws, hcL⟩ => ?_) (fun H6 ⟨B6, k6, ws, hl6, hws, hcL⟩ => ?_)
    · have hstl : st.length ≤ sizeLine := Nat.le_of_lt (small1000 (by omega))
      have ha0 : (0 : Int) ≤ a1 := a0
      have ha1 : a1 ≤ (st.length : Int) := by omega
      have hm0 : 0 ≤ (f1 + 7 * (0 + (i : Int))) % 26 := Int.emod_nonneg _ (by decide)
      have hm1 : (f1 + 7 * (0 + (i : Int))) % 26 < 26 := Int.emod_lt_of_pos _ (by decide)
      obtain ⟨x, hx⟩ : ∃ x, atI letters.cps.toList ((f1 + 7 * (0 + (i : Int))) % 26) = some x ∧ x ∈ letters.cps.toList := by
        have hlt : ((f1 + 7 * (0 + (i : Int))) % 26).toNat < letters.cps.toList.length := by
          rw [show letters.cps.toList.length = 26 by decide +kernel]
          omega
        have e : atI letters.cps.toList ((((f1 + 7 * (0 + (i : Int))) % 26).toNat : Nat) : Int) = some letters.cps.toList[((f1 + 7 * (0 + (i : Int))) % 26).toNat] := atI_nat (by rw [List.getElem?_eq_getElem hlt])
        rw [Int.toNat_of_nonneg hm0] at e
        exact ⟨_, e, List.getElem_mem hlt⟩
      refine ⟨rfl, .str st, rfl, .int a1, rfl, a1, rfl, st, rfl, hstl, ?_⟩
      refine ⟨.str letters, rfl, .int f1, rfl, .int (0 + (i : Int)), rfl, 7, _, rfl, rfl, .inl ⟨by decide, by decide⟩, _, _, rfl, rfl, .inl ⟨_, rfl, _, 26, rfl, rfl, (by show (0 : Int) < 26; decide), ?_⟩⟩
      refine ⟨letters, _, x, rfl, rfl, by decide +kernel, hx.1, ?_⟩
      have hc1 := cutS_length st none (some a1)
      have hc2 := cutS_length st (some a1) none
      have h1000 : (1000 : Nat) ≤ sizeLine := by decide
      have hx1 : (⟨#[x]⟩ : Str).length = 1 := rfl
      refine ⟨_, _, rfl, rfl, by rw [hx1]; omega, ?_⟩
      refine ⟨.str st, rfl, .int a1, rfl, a1, rfl, st, rfl, hstl, ?_⟩
      have hl1 : (cutS st none (some a1) ++ (⟨#[x]⟩ : Str)).length = (cutS st none (some a1)).length + 1 := by rw [Str.length_append, hx1]
      refine ⟨_, _, rfl, rfl, by rw [hl1]; omega, ?_⟩
      have hnm : IsNm (cutS st none (some a1) ++ (⟨#[x]⟩ : Str) ++ cutS st (some a1) none) := by
        have e : tl (cutS st none (some a1) ++ (⟨#[x]⟩ : Str) ++ cutS st (some a1) none) = cs.take a1.toNat ++ [x] ++ cs.drop a1.toNat := by
          rw [tl_append, tl_append, tl_cut_to st a1 ha0 ha1, tl_cut_from st a1 ha0 ha1, est]
        have el : (cutS st none (some a1) ++ (⟨#[x]⟩ : Str) ++ cutS st (some a1) none).length = cs.length + 1 := by
          rw [tlen, e, List.length_append, List.length_append, List.length_take, List.length_drop]
          show min a1.toNat cs.length + 1 + (cs.length - a1.toNat) = cs.length + 1
          omega
        refine ⟨fun y hy => ?_, by omega, by omega⟩
        rw [e] at hy
        rcases List.mem_append.mp hy with hy | hy
        · rcases List.mem_append.mp hy with hy | hy
          · exact hcs y (List.mem_of_mem_take hy)
          · rw [List.mem_singleton.mp hy]
            exact hx.2
        · exact hcs y (List.mem_of_mem_drop hy)
      refine ⟨_, hcL, ?_, B6.wr nL _, k6.wr hL0 _, ws ++ [cutS st none (some a1) ++ (⟨#[x]⟩ : Str) ++ cutS st (some a1) none], by rw [List.length_append, hl6]; rfl, fun z hz => ?_, ?_⟩
      · rw [List.length_map, hl6]
        exact small1000 (by omega)
      · rcases List.mem_append.mp hz with h | h
        · exact hws z h
        · rw [List.mem_singleton.mp h]
          exact hnm
      · rw [upd_same, List.map_append]
        rfl
    · exact q L ws H6 (by omega) hws B6 k6 hL0 hcL
/-! ### a target whose last name has a star -/
section
open PySem.Spec PyProof.Rows
variable {prog : Program} {w : World} {A : Around} {E : Value → Shared → Prop} {s : Shared}
end
section
open PySem.Spec PyProof.Rows
variable {X : Cx}
end
/-! ### enumerate of a tuple -/
section
open PySem.Spec PyProof.Rows
theorem meets_enum1 {v : Value} {o : Obj} {Hs : Heap → Prop} (Bg : Begins v o Hs) :
    Meets (Builtin.«enumerate.__new__» ⟨[.type "enumerate", v], []⟩) (fun _ R s => Hs s.heap ∧
      R (.ok (.ret (.ref (s.heap.push o).objs.size))) { s with heap := (s.heap.push o).push { cls := .type "enumerate", data := .fields #[.none, .bool false, .ref s.heap.objs.size, rawInt 0, .none, .none] } }) :=
  .of_wp fun prog w A R s h => by
    obtain ⟨hp, g, d, tk, os⟩ := s
    obtain ⟨h1, h⟩ := h
    have hsub := sub_enumerate
    have start : ∀ {A' : Around} {E : Value → Shared → Prop} {Q : Value → Shared → Prop}, Q (.ref hp.objs.size) ⟨hp.push o, g, d, tk, os⟩ → wpAny (model prog w) A' (pyIter v) Q E ⟨hp, g, d, tk, os⟩ :=
      fun q => Bg.iter prog w _ _ ⟨hp, g, d, tk, os⟩ _ h1 q
    wp_walk using start
    refine wpAny_stack_any fun st => wpAny_pure ?_
    split
    · rename_i c _ _ _ _ _
      cases (c == Value.type "enumerate") <;> (wp_walk using start; exact ⟨_, rfl, h⟩)
    · wp_walk using start
      exact ⟨_, rfl, h⟩
variable {prog : Program} {w : World} {A : Around} {E : Value → Shared → Prop} {s : Shared}
theorem call_enumT {t : Addr} {items : Array Value} {Q : Value → Shared → Prop} (ht : s.heap.IsTuple t items)
    (h : ∀ h', IsEnum h' (s.heap.objs.size + 1) s.heap.objs.size 0 .none → h'.IsTupleIter s.heap.objs.size t 0 →
      (∀ b o, s.heap.get? b = some o → h'.get? b = some o) → Q (.ref (s.heap.objs.size + 1)) { s with heap := h' }) : wpAny (model prog w) A (call (.type "enumerate") [.ref t]) Q E s := by
  refine callType_new F.called_enumerate (by decide) (F.typeCall_enumerate_1 _) (F.newCall_enumerate_1 _) (fun obj => F.args_object_init_2 obj _) F.entry_enumerate_new
    (meets_enum1 (begins_tuple t items)) ⟨ht, ?_⟩
  generalize ho : ({ cls := .type "tuple_iterator", data := .fields #[.ref t, .int 0 0] } : Obj) = oi
  have hf : oi.isFreed = false := by rw [← ho]; rfl
  have hz : (s.heap.push oi).objs.size = s.heap.objs.size + 1 := Heap.size_push ..
  show _ ∧ _
  rw [hz]
  have hit := Heap.get?_push_size s.heap (o := oi) hf
  have he := Heap.get?_push_size (s.heap.push oi) (o := { cls := .type "enumerate", data := .fields #[.none, .bool false, .ref s.heap.objs.size, rawInt 0, .none, .none] }) rfl
  rw [hz] at he
  exact ⟨⟨_, he, rfl⟩, h _ he ⟨_, Heap.get?_push_of_some _ hit, by rw [← ho], by rw [← ho]; rfl⟩ fun b o x => Heap.get?_push_of_some _ (Heap.get?_push_of_some _ x)⟩
end
/-- the tuple at a, each item in a new pair with its number -/
def IteT (K : PySem.W.Frag) (a : Addr) : It where
  go := fun i H => ∃ (xs : List V) (x : V), SqT K H a xs ∧ xs[i]? = some x
  yld := fun i H v H' => ∃ T x, v = .ref T ∧ H T = none ∧ H' = upd H T (.tup [.int (i : Nat), x]) ∧ ∀ xs, SqT K H a xs → xs[i]? = some x
  stop := fun i H => ∃ xs : List V, SqT K H a xs ∧ xs.length ≤ i
open PySem.Spec PyProof.Rows in
theorem turn_enumT {P : Program} {w : World} {K : PySem.W.Frag} {elts : List Expr} {kk : Nat} {tpos : Pos} (a e it : Addr) :
    Turn P w K (.Tuple elts kk tpos) (IteT K a) [e, it] e (fun i h => (∃ old, IsEnum h e it ((i : Nat) : Int) old) ∧ h.IsTupleIter it a i ∧ e ≠ it ∧ a ≠ it ∧ a ≠ e) where
  mem := List.mem_cons_self ..
  obj := fun i h st b hb => by
    obtain ⟨⟨old, he⟩, ⟨o, ho, hc, hd⟩, _⟩ := st
    rcases List.mem_cons.mp hb with z | hb
    · subst z
      refine ⟨_, he, fun v q => ?_⟩
      cases q
    · exact ⟨o, by rw [List.mem_singleton.mp hb]; exact ho, fun v q => by rw [hd] at q; cases q⟩
  keep := fun i h h' st k => by
    obtain ⟨⟨old, he⟩, hi, hne⟩ := st
    exact ⟨⟨old, k e (List.mem_cons_self ..) _ he⟩, hi.at fun o q => k it (List.mem_cons_of_mem _ (List.mem_singleton.mpr rfl)) o q, hne⟩
  item := by
    intro X hP hw hK hc i pins s σ H E I hf st hg
    subst hP hw hK
    obtain ⟨⟨old, he⟩, hit, hne, nai, nae⟩ := st
    obtain ⟨xs, x, hq, hx⟩ := hg
    obtain ⟨its, rv, ht, hz⟩ := I.tuple hq
    obtain ⟨u, hu, ru⟩ := rv.get hx
    have hil : i < its.toArray.size := by
      rw [List.size_toArray]
      exact (List.getElem?_eq_some_iff.mp hu).1
    have hel : e < s.heap.objs.size := Heap.lt_size he
    have hitl : it < s.heap.objs.size := by
      obtain ⟨_, q, _⟩ := hit
      exact Heap.lt_size q
    have D := Draws.tuple (prog := X.prog) (w := X.w) (A := X.A.in1) (I.ok.hd hc) it a nai its.toArray
    refine wpAny_pyNext_enum_itemD D he ⟨hit, ht⟩ hil hne (fun hm => ?_) fun v h' tk hv ho st' hT hsz hk => ?_
    · rcases List.mem_cons.mp hm with z | hm
      · exact hne z
      · exact nae (List.mem_singleton.mp hm).symm
    have ev : v = u := by
      have q : its.toArray[i]? = some u := by simpa using hu
      rw [hv] at q
      exact Option.some.inj q
    subst ev
    refine ⟨_, rfl, wpAny_letOwnedTupleGo_enum (s := { s with heap := h', toks := tk + 1 }) ho fun h2 he2 sb => ?_⟩
    have back : ∀ b o, b ≠ e → h'.get? b = some o → h2.get? b = some o := fun b o nb q => (sb.2 b nb).trans q
    have new : ObjOk X.prog X.w (upd H s.heap.objs.size (.tup [.int (i : Nat), x])) h2 s.heap.objs.size (.tup [.int (i : Nat), x]) :=
      ⟨(by show 2 ≤ sizeLine; decide), [.int i tk, v], .cons ⟨_, rfl⟩ (.cons ru .nil), ⟨_, back _ _ (Nat.ne_of_gt hel) hT, rfl, _, rfl⟩⟩
    have keepO : ∀ b ob, b ∉ [e, it] → s.heap.get? b = some ob → h2.get? b = some ob := fun b ob hb q => by
      have n1 : b ≠ e := fun z => hb (by simp [z])
      have n2 : b ≠ it := fun z => hb (by simp [z])
      exact back b ob n1 (hk b ob n1 n2 q)
    have I1 : Inv X pins σ (upd H s.heap.objs.size (.tup [.int (i : Nat), x])) { s with heap := h2, toks := tk + 1 } := I.turnedNew (ch := [e, it]) keepO hf (Nat.le_refl _) new
    refine ⟨.ref s.heap.objs.size, _, I1, rfl, ⟨_, x, rfl, I.hok.fresh (Nat.le_refl _), rfl, fun ys hy => by rw [I.tuple_inj hy hq]; exact hx⟩, ⟨⟨v, ?_⟩, st'.1.at fun o q => back it o hne.symm q, hne, nai, nae⟩, fun b hb => ?_⟩
    · have e1 : ((i + 1 : Nat) : Int) = (i : Int) + 1 := by omega
      rw [e1]
      exact he2
    · have hb' : b < s.heap.objs.size := by
        rcases List.mem_cons.mp hb with z | hb
        · rw [z]; exact hel
        · rw [List.mem_singleton.mp hb]; exact hitl
      rw [upd_ne (Nat.ne_of_lt hb')]
      exact (hf b hb).1
  done := by
    intro X hP hw hK hc i pins s σ H E I hf st hg
    subst hP hw hK
    obtain ⟨⟨old, he⟩, hit, hne, nai, nae⟩ := st
    obtain ⟨xs, hq, hx⟩ := hg
    obtain ⟨its, rv, ht, hz⟩ := I.tuple hq
    obtain ⟨f0, f1, f2, f3, f4, f5⟩ := hf it (List.mem_cons_of_mem _ (List.mem_singleton.mpr rfl))
    have hend : its.toArray[i]? = none := Array.getElem?_eq_none_iff.mpr (by rw [List.size_toArray, ← rv.length]; exact hx)
    have D : Draws X.prog X.w X.A.in1 it [it, a] 0 (fun _ _ => False) (fun _ h => h.IsTupleIter it a i ∧ h.IsTuple a its.toArray) := {
      live := fun _ _ st => let ⟨o, ho, _⟩ := st.1; ⟨o, ho⟩
      frame := fun _ _ _ st hk => ⟨st.1.at fun o q => hk it (List.mem_cons_self ..) o q, st.2.at fun o q => hk a (List.mem_cons_of_mem _ (List.mem_singleton.mpr rfl)) o q⟩
      item := fun _ _ _ _ hi => absurd hi (Nat.not_lt_zero _)
      done := fun s2 Q2 E2 st hE => wpAny_nextOf_tuple_end (I.ok.hd hc) st.1 st.2 hend hE }
    exact wpAny_pyNext_enum_endD D he ⟨hit, ht⟩ fun h' eb => ⟨rfl, I.turned (t' := s.toks) (fun b o hb q => eb b o hb q) f0 f1 f3 f4 f5⟩
  self := fun A i s Q E st h => wpAny_pyIter_enum st.1.choose_spec h
def iEnumT (K : PySem.W.Frag) (ta : TA) : TI := fun σ H R => ta σ H fun vs H1 => ∃ a xs, vs = [.ref a] ∧ SqT K H1 a xs ∧ R (IteT K a) H1
open PySem.Spec PyProof.Rows in
theorem pi_enumT {X : Cx} {e : Expr} {ta : TA} {p pos tpos : Pos} {elts : List Expr} {kk : Nat} (hg : Gl X "enumerate") (hm : X.mg "enumerate" = none) (ha : PA X [e] ta) (hs : starEach [e] X.env = [(false, eval e X.env)] := by rfl) :
    PI X (.Tuple elts kk tpos) (.Call (.Name "enumerate" p) [e] [] pos) (iEnumT X.K ta) := by
  refine ⟨fun pins s σ H R I h => ?_⟩
  refine Call_ (ld_blt I hg hm boot_enumerate (PyProof.Rows.callWith_type1 (thn (ha.run pos pins s σ H _ I h) fun us s1 ⟨vs, H1, I1, r1, a, xs, ex, hq, q⟩ => ?_) hs rfl))
  subst ex
  obtain ⟨u, rfl, ru⟩ := vals1 r1
  cases ru
  obtain ⟨its, rv, ht, hz⟩ := I1.tuple hq
  have hal : a < s1.heap.objs.size := by
    obtain ⟨o, ho, _⟩ := id ht
    exact Heap.lt_size ho
  refine call_enumT (show s1.heap.IsTuple a its.toArray from ht) fun h' he hit hk => wpAny_pyIter_enum he ?_
  have I2 : Inv X pins σ H1 { s1 with heap := h' } := I1.kept (t' := s1.toks) hk
  refine ⟨s1.heap.objs.size + 1, [s1.heap.objs.size + 1, s1.heap.objs.size], _, _, H1, rfl, I2, turn_enumT a (s1.heap.objs.size + 1) s1.heap.objs.size, ⟨⟨.none, he⟩, hit, Nat.succ_ne_self _, Nat.ne_of_lt hal, Nat.ne_of_lt (Nat.lt_succ_of_lt hal)⟩, fun b hb => ?_, q⟩
  have hle : s1.heap.objs.size ≤ b := by
    rcases List.mem_cons.mp hb with z | hb
    · rw [z]; exact Nat.le_succ _
    · rw [List.mem_singleton.mp hb]; exact Nat.le_refl _
  exact I1.fpOk hle (I1.hok.fresh hle)
abbrev sIsName : Stmt := top 13
abbrev sIsInteger : Stmt := top 14
abbrev sIsNumber : Stmt := top 15
def nameB (z : Str) : Bool := decide ((1 : Int) ≤ (z.length : Int)) && decide ((z.length : Int) ≤ 4) && lowB z
def spName (K : PySem.W.Frag) : Sp := fun vs H Q _ => ∃ x : V, vs = [x] ∧ ((∃ z : Str, x = .str z ∧ z.length ≤ 1000 ∧ ∀ H', Same H H' → Q (.bl (nameB z)) H') ∨
  (∃ t : String, TyX K H x (.type t) ∧ kitB t "str" = some false ∧ ∀ H', Same H H' → Q (.bl false) H'))
structure NameTxt (mg : Str → Option Value) : Prop where
  isi : mg "isinstance" = none
  str : mg "str" = none
  int : mg "int" = none
  bool : mg "bool" = none
  len : mg "len" = none
  all : mg "all" = none
  low : ∃ t, mg "LETTERS" = some (.str letters t)
  most : ∃ t, mg "LONGEST_NAME" = some (.int 4 t)
theorem scName : FnScope ["value", "letter"] ["value"] (defScope sIsName) := ⟨rfl, rfl, rfl, by decide +kernel, rfl, by decide +kernel, by decide +kernel⟩
theorem ok_isname {f : Addr} {fd : FuncData} (F : Fun K "is_name" "is_name" sIsName f fd) (T : NameTxt mg) : FnOk P w K mg base CX0 1 f fd ["value"] (spName K) := by
  refine F.ok scName (fun vs H Q E h => ?_) (fun cdv A outer s H vs Q E hr h => ?_)
  · obtain ⟨x, rfl, _⟩ := h
    rfl
  obtain ⟨x, rfl, h⟩ := h
  obtain ⟨tl, mlow⟩ := T.low
  obtain ⟨tm, mmost⟩ := T.most
  refine ⟨_, pss_cons (ps_if (PW.pt (pw_or (pt_not (pt_val (pe_callB call_isi (by rfl) T.isi (by decide +kernel) (pa_cons (pv 0) (pa_cons (pe_bltn (v := .ty "str") (by rfl) T.str (by decide +kernel) rfl) pa_nil)))))
        (pw_or1 (pt_not (pt_chain op_le op_le pe_int (pe_callB call_len (by rfl) T.len PySem.boot_len (pa_cons (pv 0) pa_nil)) (pe_glob (v := .int 4) (by rfl) mmost ⟨_, rfl⟩))))))
      (pss_one (ps_ret pe_bl)) pss_nil)
    (pss_one (ps_ret (pe_callB (cr_all rfl) (by rfl) T.all (by decide +kernel) (pa_cons
      (pe_lc (own := [("letter", 1)]) (g := gName 1) rfl scName.nd (pi_str (pv 0)) (blkOk_by (own := [("letter", 1)]) (N := ["value", "letter"]) (sc := defScope sIsName) (by decide +kernel))
        (fun _ _ _ _ _ => pg_name (i := 1) scName.nd rfl (Or.inl rfl) (Or.inr rfl)) (fun _ _ _ _ _ => pts_nil)
        (fun _ _ _ _ _ => pe_cmpR op_in_sign (pv 1) (pe_glob (v := .str letters) (by rfl) mlow ⟨_, rfl⟩) rfl)) pa_nil)))), ?_⟩
  rcases h with ⟨z, rfl, hz, q⟩ | ⟨t, ty, hk, q⟩
  · have hzl : z.length ≤ sizeLine := Nat.le_of_lt (small1000 hz)
    refine ⟨_, rfl, _, _, _, _, true, rfl, .ty _, .base (.str z), kit_ty (by decide +kernel), _, rfl, ?_⟩
    refine iteF ?_
    refine ⟨_, rfl, _, z.length, rfl, ⟨hzl, rfl⟩, 1, _, rfl, rfl, _, rfl, ?_⟩
    refine ite2 (fun h1 => ?_) (fun h1 => ?_)
    · refine ⟨_, 4, rfl, rfl, _, rfl, ?_⟩
      cases h2 : decide ((z.length : Int) ≤ 4) with
      | false =>
        refine iteT ?_
        have e : nameB z = false := by unfold nameB; rw [h2, Bool.and_false, Bool.false_and]
        rw [← e]
        exact q _ (Same.refl H)
      | true =>
        refine iteF ?_
        refine ⟨_, rfl, z, rfl, fun D hD => ?_⟩
        have s1 := same_upd hD (.lst [])
        refine lc_str (fun i H2 => Same H H2 ∧ H2 D = some (.lst (((z.cps.toList.take i).map fun c => decide (c ∈ letters.cps.toList)).map V.bl))) ⟨s1, upd_same⟩ (fun i c H2 hc ⟨s2, hD2⟩ => ?_) (fun H2 ⟨s2, hD2⟩ => ?_)
        · refine ⟨rfl, _, rfl, c, letters, rfl, rfl, _, hD2, ?_, fun a o e => ?_, ?_⟩
          · rw [List.length_map, List.length_map, List.length_take]
            have : z.cps.toList.length = z.length := (str_len z).symm
            exact Nat.lt_of_le_of_lt (Nat.min_le_right _ _) (by rw [this]; exact small1000 hz)
          · rw [upd_ne (ne_of_none e hD)]
            exact s2 _ _ e
          · rw [upd_same, kSq _ hc, List.map_append]
            rfl
        · rw [List.take_length] at hD2
          refine ⟨D, _, rfl, SqL.of hD2, ?_⟩
          have e : nameB z = ((z.cps.toList.map fun c => decide (c ∈ letters.cps.toList)).all id) := by
            have h1' : decide ((1 : Int) ≤ (z.length : Int)) = true := h1
            unfold nameB lowB
            rw [h2, h1', List.all_map]
            rfl
          rw [← e]
          exact q _ s2
    · have h1' : decide ((1 : Int) ≤ (z.length : Int)) = false := Bool.eq_false_iff.mpr h1
      refine ⟨_, rfl, iteT ?_⟩
      have e : nameB z = false := by unfold nameB; rw [h1', Bool.false_and, Bool.false_and]
      rw [← e]
      exact q _ (Same.refl H)
  · refine ⟨_, rfl, _, _, _, _, false, rfl, .ty _, ty, kit_ty hk, _, rfl, ?_⟩
    refine iteT (iteT ?_)
    exact q _ (Same.refl H)
def spInteger (K : PySem.W.Frag) : Sp := fun vs H Q _ => ∃ (x : V) (t : String) (bi bb : Bool), vs = [x] ∧ TyX K H x (.type t) ∧ kitB t "int" = some bi ∧ kitB t "bool" = some bb ∧ Q (.bl (bi && !bb)) H
theorem scInteger : FnScope ["value"] ["value"] (defScope sIsInteger) := ⟨rfl, rfl, rfl, by decide +kernel, rfl, by decide +kernel, by decide +kernel⟩
def spNumber (K : PySem.W.Frag) : Sp := fun vs H Q _ => ∃ (x : V) (lo hi : Int), vs = [x, .int lo, .int hi] ∧ ((∃ i, x = .int i ∧ Q (.bl (decide (lo ≤ i) && decide (i ≤ hi))) H) ∨
  (∃ (t : String) (bi bb : Bool), TyX K H x (.type t) ∧ kitB t "int" = some bi ∧ kitB t "bool" = some bb ∧ (bi && !bb) = false ∧ Q (.bl false) H))
theorem scNumber : FnScope ["value", "least", "most"] ["value", "least", "most"] (defScope sIsNumber) := ⟨rfl, rfl, rfl, by decide +kernel, rfl, by decide +kernel, by decide +kernel⟩
theorem ok_isnumber {f g : Addr} {fd gd : FuncData} (F : Fun K "is_number" "is_number" sIsNumber f fd) (G : FnOk P w K mg base CX0 1 g gd ["value"] (spInteger K)) (bG : Binds K gd ["value"] []) (kG : PySem.W.keepIn K (.ref g) = true) (mG : mg "is_integer" = some (.ref g)) :
    FnOk P w K mg base CX0 2 f fd ["value", "least", "most"] (spNumber K) := by
  refine F.ok scNumber (fun vs H Q E h => ?_) (fun cdv A outer s H vs Q E hr h => ?_)
  · obtain ⟨x, lo, hi, rfl, _⟩ := h
    rfl
  obtain ⟨x, lo, hi, rfl, h⟩ := h
  refine ⟨_, pss_one (ps_ret (pe_and (pe_call G hr (by rfl) mG kG bG .nil pass0 (pa_cons (pv 0) pa_nil)) (pe_one (pe_chain op_le op_le (pv 1) (pv 0) (pv 2))))), ?_⟩
  rcases h with ⟨i, rfl, q⟩ | ⟨t, bi, bb, ty, h1, h2, h3, q⟩
  · refine ⟨_, rfl, _, "int", true, false, rfl, .base (.int i), by decide +kernel, by decide +kernel, _, rfl, iteT ?_⟩
    refine ⟨_, rfl, _, rfl, lo, i, rfl, rfl, _, rfl, ?_⟩
    cases h : decide (lo ≤ i) with
    | true =>
      rw [h, Bool.true_and] at q
      exact iteT ⟨_, rfl, i, hi, rfl, rfl, q⟩
    | false =>
      rw [h, Bool.false_and] at q
      exact iteF q
  · refine ⟨_, rfl, _, t, bi, bb, rfl, ty, h1, h2, _, rfl, ?_⟩
    rw [h3]
    exact iteF q
/-! ### parts, their words -/
structure Tm where
  n : Int
  d : Int
  a : Str
inductive Pt where
  | flat (k w : Str) (es : List Str)
  | mix (w : Str) (ts : List Tm)
  | use (w p : Str) (es : List Str)
/-- place by place -/
def All2 {α β : Type} (R : α → β → Prop) (xs : List α) (ys : List β) : Prop := xs.length = ys.length ∧ ∀ (i : Nat) (x : α) (y : β), xs[i]? = some x → ys[i]? = some y → R x y
theorem All2.mono {α β : Type} {R S : α → β → Prop} {xs : List α} {ys : List β} (h : All2 R xs ys) (f : ∀ x y, R x y → S x y) : All2 S xs ys := ⟨h.1, fun i x y a b => f x y (h.2 i x y a b)⟩
theorem All2.nil {α β : Type} {R : α → β → Prop} : All2 R [] [] := ⟨rfl, fun i x y h => by simp at h⟩
theorem All2.get {α β : Type} {R : α → β → Prop} {xs : List α} {ys : List β} (h : All2 R xs ys) {i : Nat} {x : α} (hx : xs[i]? = some x) : ∃ y, ys[i]? = some y ∧ R x y := by
  have hi : i < ys.length := by
    rw [← h.1]
    exact (List.getElem?_eq_some_iff.mp hx).1
  exact ⟨ys[i], List.getElem?_eq_getElem hi, h.2 i x _ hx (List.getElem?_eq_getElem hi)⟩
def TmAt (H : Hp) (v : V) (t : Tm) : Prop := ∃ a, v = .ref a ∧ H a = some (.tup [.int t.n, .int t.d, .str t.a])
def PtAt (H : Hp) (v : V) : Pt → Prop
  | .flat k w es => ∃ a, v = .ref a ∧ H a = some (.tup (.str k :: .str w :: es.map V.str))
  | .mix w ts => ∃ a b vs, v = .ref a ∧ H a = some (.tup [.str "mix", .str w, .ref b]) ∧ H b = some (.tup vs) ∧ All2 (TmAt H) vs ts
  | .use w p es => ∃ a b, v = .ref a ∧ H a = some (.tup [.str "use", .str w, .str p, .ref b]) ∧ H b = some (.tup (es.map V.str))
/-- tuples that stood, stand -/
def Tups (H H' : Hp) : Prop := ∀ a xs, H a = some (.tup xs) → H' a = some (.tup xs)
theorem Same.tups {H H' : Hp} (s : Same H H') : Tups H H' := fun a xs h => s a _ h
theorem Kp.tups {b c : Addr} {H H' : Hp} (k : Kp b H H') (B : Bag H b c) : Tups H H' := fun a xs h => by
  obtain ⟨ns, p, r, s, q, B⟩ := B
  exact k a _ h (ne_of h B.lb (by intro z; cases z))
theorem Tups.trans {H H1 H2 : Hp} (x : Tups H H1) (y : Tups H1 H2) : Tups H H2 := fun a xs h => y a xs (x a xs h)
theorem TmAt.tups {H H' : Hp} (s : Tups H H') {v : V} {t : Tm} (h : TmAt H v t) : TmAt H' v t := by
  obtain ⟨a, e, h⟩ := h
  exact ⟨a, e, s _ _ h⟩
theorem PtAt.tups {H H' : Hp} (s : Tups H H') {v : V} : ∀ {p : Pt}, PtAt H v p → PtAt H' v p
  | .flat _ _ _, ⟨a, e, h⟩ => ⟨a, e, s _ _ h⟩
  | .mix _ _, ⟨a, b, vs, e, h1, h2, h3⟩ => ⟨a, b, vs, e, s _ _ h1, s _ _ h2, h3.mono fun _ _ h => h.tups s⟩
  | .use _ _ _, ⟨a, b, e, h1, h2⟩ => ⟨a, b, e, s _ _ h1, s _ _ h2⟩
structure SmT (t : Tm) : Prop where
  n0 : -99 ≤ t.n
  n1 : t.n ≤ 99
  d0 : 0 ≤ t.d
  d1 : t.d ≤ 4
  a : t.a.length ≤ 10
/-- the digits of a number -/
def dec (i : Int) : Str := toString i
def Lo (l : List Str) (n : Nat) : Prop := l.length ≤ n ∧ ∀ z ∈ l, z.length ≤ 10
theorem Lo.app {l m : List Str} {a b : Nat} (h : Lo l a) (g : Lo m b) : Lo (l ++ m) (a + b) := ⟨by rw [List.length_append]; exact Nat.add_le_add h.1 g.1, fun z hz => (List.mem_append.mp hz).elim (h.2 z) (g.2 z)⟩
theorem Lo.le {l : List Str} {a b : Nat} (h : Lo l a) (k : a ≤ b) : Lo l b := ⟨Nat.le_trans h.1 k, h.2⟩
theorem lo_sum {l : List Str} (h : ∀ z ∈ l, z.length ≤ 10) : (l.map (·.length)).sum ≤ 10 * l.length := by
  induction l with
  | nil => exact Nat.le_refl _
  | cons x r ih =>
    have h1 := h x (List.mem_cons_self ..)
    have h2 := ih fun z hz => h z (List.mem_cons_of_mem _ hz)
    rw [List.map_cons, List.sum_cons, List.length_cons]
    omega
/-! ### text_of and its helpers -/
theorem sameT {H H' : Hp} (s : Same H H') {a : Addr} {xs : List V} (h : SqT K H a xs) : SqT K H' a xs := by
  rcases h with (h | ⟨o, h⟩) | h
  · exact .inl (.inl (s _ _ h))
  · exact .inl (.inr ⟨o, s _ _ h⟩)
  · exact .inr h
theorem IsNm.b {z : Str} (h : IsNm z) : nameB z = true := by
  unfold nameB
  have h1 := h.l1
  have h4 := h.l4
  rw [lowB_of h.low, decide_eq_true (by omega), decide_eq_true (by omega)]
  rfl
def bare (t : Tm) : List Str := [dec t.n, t.a] ++ (if t.d = 0 then [] else [("late" : Str), dec t.d])
theorem PtAt.wr {H : Hp} {D : Addr} {us vs : List V} {v : V} {p : Pt} (hD : H D = some (.lst us)) (h : PtAt H v p) : PtAt (upd H D (.lst vs)) v p :=
  h.tups fun a xs e => by rw [upd_ne (ne_of e hD (by intro z; cases z))]; exact e
/-! no blank in a word -/
def NoSp (l : List Str) : Prop := ∀ z ∈ l, 32 ∉ tl z
theorem NoSp.app {l m : List Str} (h : NoSp l) (g : NoSp m) : NoSp (l ++ m) := fun z hz => (List.mem_append.mp hz).elim (h z) (g z)
theorem NoSp.cons {x : Str} {l : List Str} (h : 32 ∉ tl x) (g : NoSp l) : NoSp (x :: l) := fun z hz => (List.mem_cons.mp hz).elim (fun e => by rw [e]; exact h) (g z)
theorem NoSp.nil : NoSp [] := fun z hz => nomatch hz
theorem IsNm.sp {z : Str} (h : IsNm z) : 32 ∉ tl z := fun hz => absurd (h.low 32 hz) (by decide +kernel)
theorem IsNm.gt {z : Str} (h : IsNm z) : ¬ z = (">" : Str) := fun e => by
  rw [e] at h
  exact absurd (h.low 62 (by decide +kernel)) (by decide +kernel)
theorem joinL_len (S : List Nat) : ∀ l : List (List Nat), (joinL S l).length ≤ (l.map List.length).sum + l.length * S.length
  | [] => Nat.zero_le _
  | [p] => by
    show p.length ≤ _
    rw [List.map_cons, List.sum_cons]
    omega
  | p :: q :: r => by
    show (p ++ (S ++ joinL S (q :: r))).length ≤ _
    have ih := joinL_len S (q :: r)
    rw [List.length_append, List.length_append, List.map_cons, List.sum_cons, List.length_cons, Nat.add_mul]
    omega
theorem join_len {l : List Str} {n : Nat} (h : Lo l n) : (Txt.join " " l).length ≤ 11 * n := by
  rw [tlen, join_eq, tl_join]
  have h1 := joinL_len (tl " ") (l.map tl)
  have e1 : (tl ((" " : String) : Str)).length = 1 := by decide +kernel
  have e2 : ((l.map tl).map List.length).sum = (l.map (·.length)).sum := by
    rw [List.map_map]
    congr 1
  have h2 := lo_sum h.2
  have h3 := h.1
  rw [e1, e2, List.length_map] at h1
  omega
theorem Same.wd {x : Addr} {H H1 H2 : Hp} (s : Same H H1) (hx : H x = none) (k : Kp x H1 H2) : Same H H2 := fun a o e => k a o (s a o e) (ne_of_none e hx)
/-! ### the law's helpers -/
abbrev sMixed : Stmt := top 55
def spMixed (K : PySem.W.Frag) : Sp := fun vs H Q _ => ∃ (b c a : Addr) (xs : List V), vs = [.ref b, .ref a] ∧ Bag H b c ∧ a ≠ b ∧ SqL K H a xs ∧ xs.length ≤ 1000 ∧
  ∀ (l : Addr) (ys : List V) (H' : Hp), ys.Perm xs → Bag H' b c → Kp b H H' → H l = none → l ≠ b → H' l = some (.lst ys) → Q (.ref l) H'
theorem scMixed : FnScope ["_law_bag_here", "_law_things", "_law_found", "_law_thing"] ["_law_bag_here", "_law_things"] (defScope sMixed) := ⟨rfl, rfl, rfl, by decide +kernel, rfl, by decide +kernel, by decide +kernel⟩
theorem ins_perm {xs ys : List V} {y : V} {i : Nat} (k : Nat) (h : ys.Perm (xs.take i)) (hy : xs[i]? = some y) : (ys.take k ++ [y] ++ ys.drop k).Perm (xs.take (i + 1)) := by
  rw [List.take_add_one, hy]
  have h1 : (ys.take k ++ [y] ++ ys.drop k).Perm (y :: ys) := by
    rw [List.append_assoc]
    have h2 : (ys.take k ++ ([y] ++ ys.drop k)).Perm (y :: (ys.take k ++ ys.drop k)) := List.perm_middle
    rw [List.take_append_drop] at h2
    exact h2
  refine h1.trans ((List.Perm.cons y h).trans ?_)
  show (y :: List.take i xs).Perm (List.take i xs ++ [y])
  exact (List.perm_append_singleton y (List.take i xs)).symm
theorem ok_mixed {f g : Addr} {fd gd : FuncData} (F : Fun K "_law_mixed" "_law_mixed" sMixed f fd) (G : Df P w K mg base 1 g gd "_law_pull" ["_law_bag_here", "_law_many"] spPull) (mlen : mg "len" = none) :
    FnOk P w K mg base CX0 2 f fd ["_law_bag_here", "_law_things"] (spMixed K) := by
  refine F.ok scMixed (fun vs H Q E h => ?_) (fun cdv A outer s H vs Q E hr h => ?_)
  · obtain ⟨b, c, a, xs, rfl, _⟩ := h
    rfl
  obtain ⟨b, c, a, xs, rfl, B, nab, ha, hl, q⟩ := h
  refine ⟨_, pss_cons (ps_set (i := 2) scMixed.nd rfl (Or.inl rfl) (pe_lst pa_nil))
    (pss_cons (ps_for PassesOwn.never rfl (pi_list (pv 1)) (pg_name (i := 3) scMixed.nd rfl (Or.inl rfl))
      (pss_one (ps_expr (pe_bm PySem.F.plainAttrs_list PySem.F.slot_list_insert PySem.F.type_list_insert mt_insert (pv 2) (pa_cons (pe_call G.ok hr (by rfl) G.m G.kp G.b .nil pass0 (pa_cons (pv 0) (pa_cons (pe_op op_add (pe_callB call_len_seq (by rfl) mlen PySem.boot_len (pa_cons (pv 2) pa_nil)) pe_int) pa_nil))) (pa_cons (pv 3) pa_nil))))))
    (pss_one (ps_ret (pv 2)))), ?_⟩
  refine ⟨Nat.zero_le _, fun L hL => ?_⟩
  have nL := B.ne_new hL
  have k0 : Kp b H (upd H L (.lst [])) := (Kp.refl b H).wr hL _
  refine ⟨.ref a, rfl, a, rfl, ⟨_, k0.seqL nab ha⟩, for_list (K := K) (a := a) (xs := xs) (fun i σ H2 => ∃ v3 ys, σ = [some (.ref b), some (.ref a), some (.ref L), v3] ∧ Bag H2 b c ∧ Kp b H H2 ∧ ys.Perm (xs.take i) ∧ H2 L = some (.lst ys))
    ⟨none, [], rfl, B.upd_new hL _, k0, List.Perm.refl _, upd_same⟩ (fun i σ H2 _ ⟨_, _, _, _, k2, _⟩ => k2.seqL nab ha) ?_ ?_⟩
  · rintro i x σ H2 hx ⟨v3, ys, rfl, B2, k2, hp, hL2⟩
    have hi : i < xs.length := (List.getElem?_eq_some_iff.mp hx).1
    have hyl : ys.length = i := by rw [hp.length_eq, List.length_take]; omega
    have h2000 : (2000 : Nat) ≤ sizeLine := by decide
    refine ⟨.ref L, rfl, .inl ⟨rfl, _, SqL.of hL2⟩, .ref b, rfl, .ref L, rfl, L, _, rfl, .inl (SqL.of hL2), _, _, rfl, rfl, b, c, _, rfl, B2, by omega, by omega, fun d H3 d0 d1 B3 k3 => ?_⟩
    refine ⟨x, rfl, L, ys, d, x, rfl, rfl, k3 _ _ hL2 nL.1.symm, by omega, d0, by omega, ?_⟩
    exact ⟨_, _, rfl, B3.wr nL _, (k2.trans k3).wr hL _, ins_perm d.toNat hp hx, upd_same⟩
  · rintro σ H2 ⟨v3, ys, rfl, B2, k2, hp, hL2⟩
    rw [List.take_length] at hp
    exact ⟨.ref L, rfl, q L ys H2 hp B2 k2 hL nL.1.symm hL2⟩
/-- a list of names at a -/
structure NmL (H : Hp) (b a : Addr) (ws : List Str) : Prop where
  ne : a ≠ b
  at_ : H a = some (.lst (ws.map V.str))
  nm : ∀ z ∈ ws, IsNm z
  l : ws.length ≤ 1000
theorem NmL.kp {H H' : Hp} {b a : Addr} {ws : List Str} (h : NmL H b a ws) (k : Kp b H H') : NmL H' b a ws := ⟨h.ne, k _ _ h.at_ h.ne, h.nm, h.l⟩
theorem IsNm.ok {z : Str} (h : IsNm z) : PyData.strOk z = true := by
  have all : ∀ c ∈ letters.cps.toList, c < 0x110000 := by decide +kernel
  unfold PyData.strOk
  rw [← Array.all_toList, List.all_eq_true]
  intro c hc
  exact decide_eq_true (all c (h.low c hc))
abbrev kinds4 : List Str := ["plain", "odd", "keep", "pair"]
def BxAt (H : Hp) (v : V) (p : Str × Str) : Prop := ∃ t, v = .ref t ∧ H t = some (.tup [.str p.1, .str p.2])
theorem BxAt.tups {H H' : Hp} (s : Tups H H') {v : V} {p : Str × Str} (h : BxAt H v p) : BxAt H' v p := by
  obtain ⟨t, e, h⟩ := h
  exact ⟨t, e, s _ _ h⟩
/-- a list of pairs of a kind and a name at a -/
structure BxL (H : Hp) (b a : Addr) (bs : List V) (fs : List (Str × Str)) : Prop where
  ne : a ≠ b
  at_ : H a = some (.lst bs)
  all : All2 (BxAt H) bs fs
  ok : ∀ p ∈ fs, p.1 ∈ kinds4 ∧ IsNm p.2
  l : fs.length ≤ 1000
theorem BxL.kp {H H' : Hp} {b c a : Addr} {bs : List V} {fs : List (Str × Str)} (h : BxL H b a bs fs) (B : Bag H b c) (k : Kp b H H') : BxL H' b a bs fs :=
  ⟨h.ne, k _ _ h.at_ h.ne, h.all.mono fun _ _ z => z.tups (k.tups B), h.ok, h.l⟩
theorem All2.tail {α β : Type} {R : α → β → Prop} {x : α} {y : β} {xs : List α} {ys : List β} (h : All2 R (x :: xs) (y :: ys)) : R x y ∧ All2 R xs ys :=
  ⟨h.2 0 x y rfl rfl, Nat.succ.inj h.1, fun i u v hu hv => h.2 (i + 1) u v hu hv⟩
theorem NmL.take {H : Hp} {b a : Addr} {ws : List Str} (h : NmL H b a ws) {m : Addr} (n : Nat) (ne : m ≠ b) (hm : H m = some (.lst ((ws.take n).map V.str))) : NmL H b m (ws.take n) :=
  ⟨ne, hm, fun z hz => h.nm z (List.mem_of_mem_take hz), by rw [List.length_take]; have := h.l; omega⟩
end
end Un
namespace SerM
/-! ### polynomials as lists, the coefficient of z to the power 0 first -/
abbrev Po := List Int
def ev : Po → Int → Int
  | [], _ => 0
  | a :: r, x => a + x * ev r x
def co (p : Po) (i : Nat) : Int := p.getD i 0
def smul (c : Int) (p : Po) : Po := p.map (c * ·)
def add : Po → Po → Po
  | [], q => q
  | p, [] => p
  | a :: p, b :: q => (a + b) :: add p q
def mul : Po → Po → Po
  | [], _ => []
  | a :: r, q => add (smul a q) (0 :: mul r q)
theorem ev_smul (c : Int) : ∀ (p : Po) (x : Int), ev (smul c p) x = c * ev p x
  | [], x => by simp [smul, ev]
  | a :: r, x => by
    have ih := ev_smul c r x
    show c * a + x * ev (smul c r) x = c * (a + x * ev r x)
    rw [ih]; grind
theorem ev_add : ∀ (p q : Po) (x : Int), ev (add p q) x = ev p x + ev q x
  | [], q, x => by simp [add, ev]
  | a :: p, [], x => by simp [add, ev]
  | a :: p, b :: q, x => by
    have ih := ev_add p q x
    show (a + b) + x * ev (add p q) x = (a + x * ev p x) + (b + x * ev q x)
    rw [ih]; grind
theorem ev_mul : ∀ (p q : Po) (x : Int), ev (mul p q) x = ev p x * ev q x
  | [], q, x => by simp [mul, ev]
  | a :: r, q, x => by
    have ih := ev_mul r q x
    show ev (add (smul a q) (0 :: mul r q)) x = (a + x * ev r x) * ev q x
    rw [ev_add, ev_smul]
    show a * ev q x + (0 + x * ev (mul r q) x) = _
    rw [ih]; grind
theorem co_nil (i : Nat) : co [] i = 0 := by simp [co]
theorem co_zero (a : Int) (r : Po) : co (a :: r) 0 = a := rfl
theorem co_succ (a : Int) (r : Po) (i : Nat) : co (a :: r) (i + 1) = co r i := rfl
theorem co_add : ∀ (p q : Po) (i : Nat), co (add p q) i = co p i + co q i
  | [], q, i => by rw [co_nil]; show co q i = _; omega
  | a :: p, [], i => by rw [co_nil]; show co (a :: p) i = _; omega
  | a :: p, b :: q, 0 => rfl
  | a :: p, b :: q, i + 1 => co_add p q i
theorem co_smul (c : Int) : ∀ (p : Po) (i : Nat), co (smul c p) i = c * co p i
  | [], i => by rw [co_nil]; show co [] i = _; rw [co_nil]; simp
  | a :: p, 0 => rfl
  | a :: p, i + 1 => co_smul c p i
/-- not the zero polynomial -/
def NZ (p : Po) : Prop := ∃ i, co p i ≠ 0
theorem zero_ev : ∀ {p : Po}, (∀ i, co p i = 0) → ∀ x, ev p x = 0
  | [], _, _ => rfl
  | a :: r, h, x => by
    have h0 : a = 0 := h 0
    have ih := zero_ev (p := r) (fun i => h (i + 1)) x
    show a + x * ev r x = 0
    rw [h0, ih]; simp
/-- beyond some point it is not zero -/
theorem nz_big : ∀ {p : Po}, NZ p → ∃ N : Int, 0 < N ∧ ∀ x, N ≤ x → ev p x ≠ 0
  | [], ⟨i, h⟩ => absurd (co_nil i) h
  | a :: r, ⟨i, h⟩ => by
    by_cases hr : NZ r
    · obtain ⟨N, hN, hb⟩ := nz_big hr
      refine ⟨N + a.natAbs + 1, by omega, fun x hx e => ?_⟩
      have e : a + x * ev r x = 0 := e
      have hx0 : 0 < x := by omega
      have dv : x ∣ a := ⟨-(ev r x), by grind⟩
      have a0 : a = 0 := Int.eq_zero_of_dvd_of_natAbs_lt_natAbs dv (by omega)
      have : x * ev r x = 0 := by omega
      rcases Int.mul_eq_zero.mp this with h1 | h1
      · omega
      · exact hb x (by omega) h1
    · have z : ∀ i, co r i = 0 := fun j => Classical.byContradiction fun k => hr ⟨j, k⟩
      have a0 : a ≠ 0 := by
        cases i with
        | zero => exact h
        | succ i => exact absurd (z i) h
      refine ⟨1, by decide, fun x _ e => a0 ?_⟩
      have e : a + x * ev r x = 0 := e
      rw [zero_ev z x] at e
      simpa using e
theorem zero_of_ev {p : Po} (N : Int) (h : ∀ x, N ≤ x → ev p x = 0) (i : Nat) : co p i = 0 :=
  Classical.byContradiction fun k => by
    obtain ⟨M, _, hb⟩ := nz_big (p := p) ⟨i, k⟩
    exact hb (max N M) (Int.le_max_right _ _) (h _ (Int.le_max_left _ _))
/-- the same values, the same coefficients -/
theorem co_of_ev {p q : Po} (N : Int) (h : ∀ x, N ≤ x → ev p x = ev q x) (i : Nat) : co p i = co q i := by
  have := zero_of_ev (p := add p (smul (-1) q)) N (fun x hx => by rw [ev_add, ev_smul, h x hx]; omega) i
  rw [co_add, co_smul] at this
  omega
theorem ev_of_co {p q : Po} (h : ∀ i, co p i = co q i) (x : Int) : ev p x = ev q x := by
  have := zero_ev (p := add p (smul (-1) q)) (fun i => by rw [co_add, co_smul, h i]; omega) x
  rw [ev_add, ev_smul] at this
  omega
/-- degree n with the coefficient c ahead -/
structure Lead (p : Po) (n : Nat) (c : Int) : Prop where
  at_ : co p n = c
  ne : c ≠ 0
  hi : ∀ i, n < i → co p i = 0
theorem Lead.nz {p : Po} {n : Nat} {c : Int} (h : Lead p n c) : NZ p := ⟨n, by rw [h.at_]; exact h.ne⟩
theorem co_len {p : Po} {i : Nat} (h : p.length ≤ i) : co p i = 0 := by
  unfold co
  rw [List.getD_eq_getElem?_getD, List.getElem?_eq_none h]; rfl
theorem lead_of {p : Po} (h : NZ p) : ∃ n c, Lead p n c ∧ n < p.length := by
  have key : ∀ m, (∀ i, m ≤ i → co p i = 0) → ∃ n c, Lead p n c ∧ n < m := fun m => by
    induction m with
    | zero => intro z; obtain ⟨i, hi⟩ := h; exact absurd (z i (Nat.zero_le _)) hi
    | succ m ih =>
      intro z
      by_cases k : co p m = 0
      · obtain ⟨n, c, l, lt⟩ := ih fun i hi => by
          rcases Nat.lt_or_ge m i with lt | ge
          · exact z i lt
          · rw [show i = m by omega]; exact k
        exact ⟨n, c, l, by omega⟩
      · exact ⟨m, _, ⟨rfl, k, fun i hi => z i hi⟩, Nat.lt_succ_self m⟩
  exact key p.length fun i hi => co_len hi
theorem lead_uniq {p : Po} {n m : Nat} {c d : Int} (h : Lead p n c) (k : Lead p m d) : n = m ∧ c = d := by
  have e : n = m := by
    rcases Nat.lt_trichotomy n m with lt | e | gt
    · exact absurd (k.at_.symm.trans (h.hi m lt)) k.ne
    · exact e
    · exact absurd (h.at_.symm.trans (k.hi n gt)) h.ne
  subst e
  exact ⟨rfl, h.at_.symm.trans k.at_⟩
theorem lead_mul : ∀ {p q : Po} {n m : Nat} {c d : Int}, Lead p n c → Lead q m d → Lead (mul p q) (n + m) (c * d)
  | [], q, n, m, c, d, h, k => absurd (h.at_.symm.trans (co_nil n)) h.ne
  | a :: r, q, n, m, c, d, h, k => by
    have cm : ∀ i, co (mul (a :: r) q) i = a * co q i + co (0 :: mul r q) i := fun i => by
      show co (add (smul a q) (0 :: mul r q)) i = _
      rw [co_add, co_smul]
    have ne : c * d ≠ 0 := fun e => (Int.mul_eq_zero.mp e).elim h.ne k.ne
    cases n with
    | zero =>
      have ha : a = c := h.at_
      have z : ∀ i, co r i = 0 := fun i => h.hi (i + 1) (by omega)
      have z2 : ∀ i, co (mul r q) i = 0 := zero_of_ev 0 fun x _ => by rw [ev_mul, zero_ev z]; simp
      have z3 : ∀ i, co (0 :: mul r q) i = 0 := fun i => by
        cases i with
        | zero => rfl
        | succ i => exact z2 i
      refine ⟨?_, ne, fun i hi => ?_⟩
      · rw [cm, z3, ha, Nat.zero_add, k.at_]; omega
      · rw [cm, z3, k.hi i (by omega)]; simp
    | succ n =>
      have hr : Lead r n c := ⟨h.at_, h.ne, fun i hi => h.hi (i + 1) (by omega)⟩
      have ih := lead_mul hr k
      refine ⟨?_, ne, fun i hi => ?_⟩
      · rw [cm, k.hi _ (by omega), show n + 1 + m = n + m + 1 by omega, co_succ, ih.at_]; simp
      · obtain ⟨j, rfl⟩ : ∃ j, i = j + 1 := ⟨i - 1, by omega⟩
        rw [cm, k.hi _ (by omega), co_succ, ih.hi j (by omega)]; simp
theorem co0_ev (p : Po) : co p 0 = ev p 0 := by
  cases p with
  | nil => rfl
  | cons a r => show a = a + 0 * ev r 0; simp
/-- p divides q -/
def Dv (p q : Po) : Prop := ∃ r, ∀ x, ev q x = ev p x * ev r x
end SerM
namespace SerM
/-! ### sums -/
def S : Nat → (Nat → Int) → Int
  | 0, _ => 0
  | n + 1, g => S n g + g n
theorem S_congr : ∀ {n : Nat} {f g : Nat → Int}, (∀ j, j < n → f j = g j) → S n f = S n g
  | 0, _, _, _ => rfl
  | n + 1, f, g, h => by
    show S n f + f n = S n g + g n
    rw [S_congr (n := n) fun j hj => h j (by omega), h n (by omega)]
theorem S_zero : ∀ {n : Nat} {f : Nat → Int}, (∀ j, j < n → f j = 0) → S n f = 0
  | 0, _, _ => rfl
  | n + 1, f, h => by
    show S n f + f n = 0
    rw [S_zero (n := n) fun j hj => h j (by omega), h n (by omega)]; rfl
theorem S_shift : ∀ (n : Nat) (g : Nat → Int), S (n + 1) g = g 0 + S n fun j => g (j + 1)
  | 0, g => by show 0 + g 0 = g 0 + 0; omega
  | n + 1, g => by
    show S (n + 1) g + g (n + 1) = g 0 + (S n (fun j => g (j + 1)) + g (n + 1))
    rw [S_shift n g]; omega
theorem S_add : ∀ (n : Nat) (f g : Nat → Int), S n (fun j => f j + g j) = S n f + S n g
  | 0, _, _ => rfl
  | n + 1, f, g => by
    show S n (fun j => f j + g j) + (f n + g n) = (S n f + f n) + (S n g + g n)
    rw [S_add n f g]; omega
theorem S_mul (c : Int) : ∀ (n : Nat) (f : Nat → Int), S n (fun j => c * f j) = c * S n f
  | 0, _ => by simp [S]
  | n + 1, f => by
    show S n (fun j => c * f j) + c * f n = c * (S n f + f n)
    rw [S_mul c n f]; grind
theorem S_more {n : Nat} {g : Nat → Int} : ∀ (k : Nat), (∀ j, n ≤ j → g j = 0) → S (n + k) g = S n g
  | 0, _ => rfl
  | k + 1, h => by
    show S (n + k) g + g (n + k) = S n g
    rw [S_more k h, h (n + k) (by omega)]; omega
theorem ev_S : ∀ {n : Nat} {p : Po} (x : Int), (∀ i, n ≤ i → co p i = 0) → ev p x = S n fun j => co p j * x ^ j
  | 0, p, x, h => zero_ev (fun i => h i (Nat.zero_le _)) x
  | n + 1, [], x, h => by
    rw [S_zero fun j _ => by rw [co_nil]; simp]; rfl
  | n + 1, a :: r, x, h => by
    have ih := ev_S (n := n) (p := r) x fun i hi => h (i + 1) (by omega)
    rw [S_shift]
    show a + x * ev r x = a * x ^ 0 + S n fun j => co r j * x ^ (j + 1)
    rw [ih, ← S_mul]
    have : S n (fun j => x * (co r j * x ^ j)) = S n fun j => co r j * x ^ (j + 1) := S_congr fun j _ => by rw [Int.pow_succ]; grind
    rw [this]; simp
/-! ### rows that a polynomial annihilates -/
def Ph (p : Po) (n : Nat) (t : Nat → Int) (i : Nat) : Int := S (n + 1) fun j => co p j * t (i + n - j)
def InS (h : Po) (m : Nat) (t : Nat → Int) : Prop := ∀ i, Ph h m t i = 0
theorem ph_add (p q : Po) (n : Nat) (t : Nat → Int) (i : Nat) : Ph (add p q) n t i = Ph p n t i + Ph q n t i := by
  unfold Ph
  rw [← S_add]
  exact S_congr fun j _ => by rw [co_add]; grind
theorem ph_smul (c : Int) (p : Po) (n : Nat) (t : Nat → Int) (i : Nat) : Ph (smul c p) n t i = c * Ph p n t i := by
  unfold Ph
  rw [← S_mul]
  exact S_congr fun j _ => by rw [co_smul]; grind
theorem ph_shift (p : Po) (n : Nat) (t : Nat → Int) (i : Nat) : Ph (0 :: p) (n + 1) t i = Ph p n t i := by
  unfold Ph
  rw [S_shift]
  show 0 * _ + _ = _
  rw [Int.zero_mul, Int.zero_add]
  exact S_congr fun j hj => by rw [co_succ, show i + (n + 1) - (j + 1) = i + n - j by omega]
theorem ph_zero {p : Po} (h : ∀ i, co p i = 0) (n : Nat) (t : Nat → Int) (i : Nat) : Ph p n t i = 0 := S_zero fun j _ => by rw [h]; simp
theorem ph_more {p : Po} {m : Nat} (h : ∀ i, m < i → co p i = 0) (d : Nat) (t : Nat → Int) (i : Nat) : Ph p (d + m) t i = Ph p m t (i + d) := by
  unfold Ph
  rw [show d + m + 1 = m + 1 + d by omega, S_more d fun j hj => by rw [h j (by omega)]; simp]
  exact S_congr fun j hj => by rw [show i + (d + m) - j = i + d + m - j by omega]
theorem ph_mul {h : Po} {m : Nat} {t : Nat → Int} (hh : ∀ i, m < i → co h i = 0) (ht : InS h m t) : ∀ (k : Po) (d : Nat), k.length ≤ d + 1 → ∀ i, Ph (mul k h) (d + m) t i = 0
  | [], d, _, i => ph_zero co_nil _ _ _
  | a :: r, d, hl, i => by
    show Ph (add (smul a h) (0 :: mul r h)) (d + m) t i = 0
    rw [ph_add, ph_smul, ph_more hh, ht]
    cases d with
    | zero =>
      have : r = [] := by
        have : r.length = 0 := by simpa using hl
        exact List.length_eq_zero_iff.mp this
      subst this
      rw [ph_zero (p := 0 :: mul [] h) fun i => by
        cases i with
        | zero => rfl
        | succ i => exact co_nil i]
      simp
    | succ d =>
      rw [show d + 1 + m = d + m + 1 by omega, ph_shift, ph_mul hh ht r d (by simpa using hl) i]
      simp
theorem ins_step {h : Po} {m : Nat} {u v : Nat → Int} (c : Int) (hu : InS h m u) (hv : InS h m v) : InS h m fun i => u i + c * v (i + 1) := fun i => by
  have h1 := hu i
  have h2 := hv (i + 1)
  unfold Ph at h1 h2 ⊢
  have e : S (m + 1) (fun j => co h j * (u (i + m - j) + c * v (i + m - j + 1))) = S (m + 1) (fun j => co h j * u (i + m - j)) + c * S (m + 1) fun j => co h j * v (i + 1 + m - j) := by
    rw [← S_mul, ← S_add]
    exact S_congr fun j hj => by rw [show i + 1 + m - j = i + m - j + 1 by omega]; grind
  rw [e, h1, h2]; simp
theorem ins_lin {h : Po} {m : Nat} {u v : Nat → Int} (c : Int) (hu : InS h m u) (hv : InS h m v) : InS h m fun i => u i + c * v i := fun i => by
  have h1 := hu i
  have h2 := hv i
  unfold Ph at h1 h2 ⊢
  have e : S (m + 1) (fun j => co h j * (u (i + m - j) + c * v (i + m - j))) = S (m + 1) (fun j => co h j * u (i + m - j)) + c * S (m + 1) fun j => co h j * v (i + m - j) := by
    rw [← S_mul, ← S_add]
    exact S_congr fun j hj => by grind
  rw [e, h1, h2]; simp
theorem ins_zero {h : Po} {m : Nat} : InS h m fun _ => 0 := fun i => S_zero fun j _ => by simp
/-! ### a row -/
def nxt (h : Po) (m : Nat) (w : Nat → Int) : Nat → Int := fun j => if j + 1 = m then -(S m fun l => co h (l + 1) * w (m - (l + 1))) else w (j + 1)
def st (h : Po) (m : Nat) : Nat → Nat → Int
  | 0 => fun j => if j + 1 = m then 1 else 0
  | i + 1 => nxt h m (st h m i)
def row (h : Po) (m : Nat) (i : Nat) : Int := st h m i 0
theorem st_row {h : Po} {m : Nat} : ∀ (j i : Nat), j < m → st h m i j = row h m (i + j)
  | 0, i, _ => rfl
  | j + 1, i, hj => by
    have := st_row (h := h) (m := m) j (i + 1) (by omega)
    rw [show i + (j + 1) = i + 1 + j by omega, ← this]
    show _ = nxt h m (st h m i) j
    unfold nxt
    rw [if_neg (show ¬ j + 1 = m by omega)]
theorem row_in {h : Po} {m : Nat} (m1 : 1 ≤ m) (h0 : co h 0 = 1) : InS h m (row h m) := fun i => by
  unfold Ph
  rw [S_shift]
  have e : row h m (i + m - 0) = -(S m fun l => co h (l + 1) * row h m (i + m - (l + 1))) := by
    have := st_row (h := h) (m := m) (m - 1) (i + 1) (by omega)
    rw [show i + m - 0 = i + 1 + (m - 1) by omega, ← this]
    show nxt h m (st h m i) (m - 1) = _
    unfold nxt
    rw [if_pos (show m - 1 + 1 = m by omega)]
    congr 1
    exact S_congr fun l hl => by rw [st_row (m - (l + 1)) i (by omega), show i + (m - (l + 1)) = i + m - (l + 1) by omega]
  rw [e, h0]
  omega
theorem row_ne {h : Po} {m : Nat} (m1 : 1 ≤ m) : row h m (m - 1) ≠ 0 := by
  have := st_row (h := h) (m := m) (m - 1) 0 (by omega)
  rw [Nat.zero_add] at this
  rw [← this]
  show (if m - 1 + 1 = m then (1 : Int) else 0) ≠ 0
  rw [if_pos (show m - 1 + 1 = m by omega)]; decide
/-! ### one step down -/
def R (X : Int) : Nat → (Nat → Int) → Nat → Int
  | 0, _ => fun _ => 0
  | d + 1, t => fun i => t i + X * R X d t (i + 1)
theorem R_tel (X : Int) : ∀ (d : Nat) (t : Nat → Int) (i : Nat), R X d t i - X * R X d t (i + 1) = t i - X ^ d * t (i + d)
  | 0, t, i => by show (0 : Int) - X * 0 = t i - X ^ 0 * t (i + 0); rw [Int.pow_zero]; simp
  | d + 1, t, i => by
    have ih := R_tel X d t (i + 1)
    show (t i + X * R X d t (i + 1)) - X * (t (i + 1) + X * R X d t (i + 2)) = t i - X ^ (d + 1) * t (i + (d + 1))
    have e : i + 1 + d = i + (d + 1) := by omega
    rw [e] at ih
    rw [Int.pow_succ]
    grind
theorem R_in {h : Po} {m : Nat} {X : Int} {t : Nat → Int} (ht : InS h m t) : ∀ d, InS h m (R X d t)
  | 0 => ins_zero
  | d + 1 => ins_step X ht (R_in ht d)
def Qs (h : Po) (m : Nat) (X : Int) (t : Nat → Int) (i : Nat) : Int := S m fun l => (co h l * X ^ l) * R X (m - l) t i
theorem Q_in {h : Po} {m : Nat} {X : Int} {t : Nat → Int} (ht : InS h m t) : InS h m (Qs h m X t) := by
  have : ∀ k, InS h m fun i => S k fun l => (co h l * X ^ l) * R X (m - l) t i := fun k => by
    induction k with
    | zero => exact ins_zero
    | succ k ih => exact ins_lin (co h k * X ^ k) ih (R_in ht (m - k))
  exact this m
theorem Q_one {h : Po} {m : Nat} {X : Int} {t : Nat → Int} (ht : InS h m t) (hz : ∀ i, m < i → co h i = 0) (h1 : ev h X = 1) (i : Nat) : Qs h m X t i - X * Qs h m X t (i + 1) = t i := by
  have e1 := ev_S (n := m + 1) (p := h) X fun i hi => hz i (by omega)
  rw [h1] at e1
  have e1 : S m (fun j => co h j * X ^ j) + co h m * X ^ m = 1 := e1.symm
  have e2 : S m (fun j => co h j * t (i + m - j)) + co h m * t (i + m - m) = 0 := ht i
  rw [show i + m - m = i by omega] at e2
  have e3 : Qs h m X t i - X * Qs h m X t (i + 1) = S m fun l => (co h l * X ^ l) * (t i - X ^ (m - l) * t (i + (m - l))) := by
    unfold Qs
    rw [← S_mul, show ∀ a b : Int, a - b = a + (-1) * b from fun a b => by omega, ← S_mul, ← S_add]
    exact S_congr fun l hl => by
      have := R_tel X (m - l) t i
      grind
  have e4 : (S m fun l => (co h l * X ^ l) * (t i - X ^ (m - l) * t (i + (m - l)))) = t i * S m (fun j => co h j * X ^ j) + (-(X ^ m)) * S m fun j => co h j * t (i + m - j) := by
    rw [← S_mul, ← S_mul, ← S_add]
    exact S_congr fun l hl => by
      have ep : X ^ m = X ^ l * X ^ (m - l) := by rw [← Int.pow_add]; congr 1; omega
      rw [ep, show i + (m - l) = i + m - l by omega]
      grind
  rw [e3, e4]
  have : S m (fun j => co h j * X ^ j) = 1 - co h m * X ^ m := by omega
  have e5 : S m (fun j => co h j * t (i + m - j)) = -(co h m * t i) := by omega
  rw [this, e5]
  grind
end SerM
namespace SerM
/-! ### a factor whose value at X is 1 -/
def Tr (h : Po) (m : Nat) (X : Int) : Nat → Nat → Int
  | 0 => row h m
  | N + 1 => Qs h m X (Tr h m X N)
theorem Tr_in {h : Po} {m : Nat} {X : Int} (m1 : 1 ≤ m) (h0 : co h 0 = 1) : ∀ N, InS h m (Tr h m X N)
  | 0 => row_in m1 h0
  | N + 1 => Q_in (Tr_in m1 h0 N)
def SN : Nat → (Nat → Nat) → Nat
  | 0, _ => 0
  | n + 1, g => SN n g + g n
theorem S_abs : ∀ (n : Nat) (f : Nat → Int) (g : Nat → Nat), (∀ j, j < n → (f j).natAbs ≤ g j) → (S n f).natAbs ≤ SN n g
  | 0, _, _, _ => Nat.le_refl _
  | n + 1, f, g, h => by
    show (S n f + f n).natAbs ≤ SN n g + g n
    have h1 := S_abs n f g fun j hj => h j (by omega)
    have h2 := h n (by omega)
    omega
theorem SN_mul (c : Nat) : ∀ (n : Nat) (f : Nat → Nat), SN n (fun j => f j * c) = SN n f * c
  | 0, _ => by simp [SN]
  | n + 1, f => by
    show SN n (fun j => f j * c) + f n * c = (SN n f + f n) * c
    rw [SN_mul c n f, Nat.add_mul]
/-- X is beyond all roots, by far -/
structure Dom (f : Po) (n : Nat) (X : Nat) : Prop where
  x0 : 0 < X
  ne : co f n ≠ 0
  hi : ∀ i, n < i → co f i = 0
  d : 2 * SN n (fun j => (co f j).natAbs * X ^ j * 2 ^ (n - j)) ≤ (co f n).natAbs * X ^ n
section
variable {h : Po} {m : Nat} {X : Nat}
theorem diff_bd {T : Nat → Nat → Int} (one : ∀ N i, T (N + 1) i - (X : Int) * T (N + 1) (i + 1) = T N i) : ∀ (j M i K : Nat), j ≤ M → (∀ M', M - j ≤ M' → M' ≤ M → (T M' i).natAbs ≤ K) → ((X : Int) ^ j * T M (i + j)).natAbs ≤ 2 ^ j * K
  | 0, M, i, K, _, hb => by
    have := hb M (by omega) (Nat.le_refl _)
    simpa using this
  | j + 1, M, i, K, hj, hb => by
    obtain ⟨N, rfl⟩ : ∃ N, M = N + 1 := ⟨M - 1, by omega⟩
    have h1 := diff_bd one j (N + 1) i K (by omega) fun M' a b => hb M' (by omega) b
    have h2 := diff_bd one j N i K (by omega) fun M' a b => hb M' (by omega) (by omega)
    have e := one N (i + j)
    have e2 : (X : Int) ^ (j + 1) * T (N + 1) (i + (j + 1)) = (X : Int) ^ j * T (N + 1) (i + j) - (X : Int) ^ j * T N (i + j) := by
      rw [← e, Int.pow_succ, show i + (j + 1) = i + j + 1 by omega]
      grind
    rw [e2, Nat.pow_succ]
    have e3 : 2 ^ j * 2 * K = 2 ^ j * K + 2 ^ j * K := by rw [Nat.mul_assoc, Nat.mul_comm 2 K, ← Nat.mul_assoc]; omega
    rw [e3]
    omega
theorem half_bd {T : Nat → Nat → Int} {f : Po} {n : Nat} (one : ∀ N i, T (N + 1) i - (X : Int) * T (N + 1) (i + 1) = T N i) (an : ∀ N i, Ph f n (T N) i = 0) (d : Dom f n X) {M i K : Nat} (hM : n ≤ M) (hb : ∀ M', M - n ≤ M' → M' ≤ M → (T M' i).natAbs ≤ K) : 2 * (T M i).natAbs ≤ K := by
  have e : S n (fun j => co f j * T M (i + n - j)) + co f n * T M (i + n - n) = 0 := an M i
  rw [show i + n - n = i by omega] at e
  have e2 : co f n * (X : Int) ^ n * T M i = -(S n fun j => (co f j * (X : Int) ^ j) * ((X : Int) ^ (n - j) * T M (i + (n - j)))) := by
    have e3 : (S n fun j => (co f j * (X : Int) ^ j) * ((X : Int) ^ (n - j) * T M (i + (n - j)))) = (X : Int) ^ n * S n fun j => co f j * T M (i + n - j) := by
      rw [← S_mul]
      exact S_congr fun j hj => by
        have ep : (X : Int) ^ n = (X : Int) ^ j * (X : Int) ^ (n - j) := by rw [← Int.pow_add]; congr 1; omega
        rw [ep, show i + (n - j) = i + n - j by omega]
        grind
    rw [e3]
    have : co f n * T M i = -(S n fun j => co f j * T M (i + n - j)) := by omega
    grind
  have b1 := S_abs n (fun j => (co f j * (X : Int) ^ j) * ((X : Int) ^ (n - j) * T M (i + (n - j)))) (fun j => (co f j).natAbs * X ^ j * 2 ^ (n - j) * K) fun j hj => by
    have h1 := diff_bd one (n - j) M i K (by omega) fun M' a b => hb M' (by omega) b
    rw [Int.natAbs_mul, Int.natAbs_mul, Int.natAbs_pow, Int.natAbs_natCast, Nat.mul_assoc ((co f j).natAbs * X ^ j)]
    exact Nat.mul_le_mul_left _ h1
  rw [SN_mul] at b1
  have b2 : (co f n).natAbs * X ^ n * (T M i).natAbs ≤ SN n (fun j => (co f j).natAbs * X ^ j * 2 ^ (n - j)) * K := by
    have := congrArg Int.natAbs e2
    rw [Int.natAbs_neg, Int.natAbs_mul, Int.natAbs_mul, Int.natAbs_pow, Int.natAbs_natCast] at this
    rw [this]
    exact b1
  have b3 := Nat.mul_le_mul_right K d.d
  have pos : 0 < (co f n).natAbs * X ^ n := Nat.mul_pos (Int.natAbs_pos.mpr d.ne) (Nat.pow_pos d.x0)
  generalize SN n (fun j => (co f j).natAbs * X ^ j * 2 ^ (n - j)) = s at b2 b3
  generalize (co f n).natAbs * X ^ n = q at b2 b3 pos
  have b4 : q * (2 * (T M i).natAbs) ≤ q * K := by
    have h1 : q * (2 * (T M i).natAbs) = 2 * (q * (T M i).natAbs) := by grind
    have h2 : 2 * s * K = 2 * (s * K) := by grind
    omega
  exact Nat.le_of_mul_le_mul_left b4 pos
/-- a row of whole numbers that halves comes to its end -/
theorem ends {V : Nat → Int} {n : Nat} (hv : ∀ M K : Nat, n ≤ M → (∀ M', M - n ≤ M' → M' ≤ M → (V M').natAbs ≤ K) → 2 * (V M).natAbs ≤ K) : ∃ M0, ∀ M, M0 ≤ M → V M = 0 := by
  have bound : ∃ K, ∀ M, M < n → (V M).natAbs ≤ K := by
    have : ∀ k, ∃ K, ∀ M, M < k → (V M).natAbs ≤ K := fun k => by
      induction k with
      | zero => exact ⟨0, fun M h => absurd h (Nat.not_lt_zero M)⟩
      | succ k ih =>
        obtain ⟨K, hK⟩ := ih
        refine ⟨K + (V k).natAbs, fun M hM => ?_⟩
        rcases Nat.lt_or_ge M k with lt | ge
        · have := hK M lt; omega
        · rw [show M = k by omega]; omega
    exact this n
  obtain ⟨K0, hK0⟩ := bound
  have all : ∀ M, ∀ M', M' ≤ M → (V M').natAbs ≤ K0 := fun M => by
    induction M with
    | zero =>
      intro M' hM'
      rw [show M' = 0 by omega]
      by_cases hn : 0 < n
      · exact hK0 0 hn
      · have := hv 0 (V 0).natAbs (by omega) fun M' a b => by rw [show M' = 0 by omega]; exact Nat.le_refl _
        omega
    | succ M ih =>
      intro M' hM'
      rcases Nat.lt_or_ge M' (M + 1) with lt | ge
      · exact ih M' (by omega)
      · rw [show M' = M + 1 by omega]
        rcases Nat.lt_or_ge (M + 1) n with l2 | g2
        · exact hK0 _ l2
        · have := hv (M + 1) (max K0 (V (M + 1)).natAbs) g2 fun M'' a b => by
            rcases Nat.lt_or_ge M'' (M + 1) with l3 | g3
            · have := ih M'' (by omega); omega
            · rw [show M'' = M + 1 by omega]; omega
          omega
  have down : ∀ K : Nat, (∃ M0, ∀ M, M0 ≤ M → (V M).natAbs ≤ K) → ∃ M0, ∀ M, M0 ≤ M → V M = 0 := fun K => by
    induction K using Nat.strongRecOn with
    | ind K ih =>
      rintro ⟨M0, h0⟩
      cases K with
      | zero => exact ⟨M0, fun M hM => by have := h0 M hM; omega⟩
      | succ K =>
        refine ih ((K + 1) / 2) (by omega) ⟨M0 + n, fun M hM => ?_⟩
        have := hv M (K + 1) (by omega) fun M' a b => h0 M' (by omega)
        omega
  exact down K0 ⟨0, fun M _ => all M M (Nat.le_refl _)⟩
theorem take_co {k : Po} {d : Nat} {c : Int} (l : Lead k d c) : ∃ k', k'.length ≤ d + 1 ∧ ∀ i, co k' i = co k i := by
  refine ⟨k.take (d + 1), List.length_take_le _ _, fun i => ?_⟩
  unfold co
  rw [List.getD_eq_getElem?_getD, List.getD_eq_getElem?_getD, List.getElem?_take]
  split
  · rfl
  · have := l.hi i (by omega)
    unfold co at this
    rw [List.getD_eq_getElem?_getD] at this
    rw [this]; rfl
/-- a factor with the first coefficient 1 and the value 1 beyond all roots is 1 -/
theorem no_factor {f k : Po} {n : Nat} {c : Int} (d : Dom f n X) (hf : ∀ x, ev f x = ev h x * ev k x) (h0 : co h 0 = 1) (l : Lead h m c) (hX : ev h X = 1) : m = 0 := by
  refine Classical.byContradiction fun m0 => ?_
  have m1 : 1 ≤ m := by omega
  have lf : Lead f n (co f n) := ⟨rfl, d.ne, d.hi⟩
  have fz : NZ f := lf.nz
  have kz : NZ k := Classical.byContradiction fun z => by
    have z' : ∀ i, co k i = 0 := fun i => Classical.byContradiction fun q => z ⟨i, q⟩
    obtain ⟨N, _, hN⟩ := nz_big fz
    exact hN N (Int.le_refl _) (by rw [hf, zero_ev z']; simp)
  obtain ⟨dk, ck, lk, _⟩ := lead_of kz
  obtain ⟨k', kl, ke⟩ := take_co lk
  have lk' : Lead k' dk ck := ⟨(ke _).trans lk.at_, lk.ne, fun i hi => (ke i).trans (lk.hi i hi)⟩
  have cof : ∀ i, co f i = co (mul k' h) i := co_of_ev 0 fun x _ => by rw [hf, ev_mul, ev_of_co ke]; grind
  have en : n = dk + m := (lead_uniq lf ⟨(cof _).trans (lead_mul lk' l).at_, (lead_mul lk' l).ne, fun i hi => (cof i).trans ((lead_mul lk' l).hi i hi)⟩).1
  have one : ∀ N i, Tr h m X (N + 1) i - (X : Int) * Tr h m X (N + 1) (i + 1) = Tr h m X N i := fun N i => Q_one (Tr_in m1 h0 N) l.hi hX i
  have an : ∀ N i, Ph f n (Tr h m X N) i = 0 := fun N i => by
    have := ph_mul l.hi (Tr_in (X := X) m1 h0 N) k' dk kl i
    rw [← en] at this
    rw [← this]
    exact S_congr fun j _ => by rw [cof]
  have each : ∀ i, ∃ M0, ∀ M, M0 ≤ M → Tr h m X M i = 0 := fun i => ends (V := fun M => Tr h m X M i) fun M K hM hb => half_bd one an d hM hb
  obtain ⟨M0, hM0⟩ : ∃ M0, ∀ i, i < m → Tr h m X M0 i = 0 := by
    have : ∀ k, ∃ M0, ∀ i, i < k → ∀ M, M0 ≤ M → Tr h m X M i = 0 := fun k => by
      induction k with
      | zero => exact ⟨0, fun i hi => absurd hi (Nat.not_lt_zero i)⟩
      | succ k ih =>
        obtain ⟨A, hA⟩ := ih
        obtain ⟨B, hB⟩ := each k
        refine ⟨A + B, fun i hi M hM => ?_⟩
        rcases Nat.lt_or_ge i k with lt | ge
        · exact hA i lt M (by omega)
        · rw [show i = k by omega]; exact hB M (by omega)
    obtain ⟨M0, h⟩ := this m
    exact ⟨M0, fun i hi => h i hi M0 (Nat.le_refl _)⟩
  -- a row that begins with zeros is zero
  have zero : ∀ {t : Nat → Int}, InS h m t → (∀ i, i < m → t i = 0) → ∀ i, t i = 0 := fun {t} ht hz i => by
    induction i using Nat.strongRecOn with
    | ind i ih =>
      rcases Nat.lt_or_ge i m with lt | ge
      · exact hz i lt
      · have e := ht (i - m)
        unfold Ph at e
        rw [S_shift, h0, show i - m + m - 0 = i by omega] at e
        rw [S_zero fun j hj => by rw [ih (i - m + m - (j + 1)) (by omega)]; simp] at e
        omega
  have down : ∀ N, (∀ i, Tr h m X N i = 0) → ∀ i, row h m i = 0 := fun N => by
    induction N with
    | zero => exact fun h => h
    | succ N ih => exact fun h2 => ih fun i => by rw [← one N i, h2, h2]; simp
  exact row_ne m1 (down M0 (zero (Tr_in m1 h0 M0) hM0) (m - 1))
end
end SerM
namespace SerM
/-! ### division -/
def zp : Nat → Po → Po
  | 0, q => q
  | k + 1, q => 0 :: zp k q
theorem ev_zp : ∀ (k : Nat) (q : Po) (x : Int), ev (zp k q) x = x ^ k * ev q x
  | 0, q, x => by show ev q x = x ^ 0 * _; rw [Int.pow_zero]; omega
  | k + 1, q, x => by
    show 0 + x * ev (zp k q) x = _
    rw [ev_zp k q x, Int.pow_succ]; grind
theorem co_zp : ∀ (k : Nat) (q : Po) (i : Nat), co (zp k q) (k + i) = co q i
  | 0, q, i => by rw [Nat.zero_add]; rfl
  | k + 1, q, i => by rw [show k + 1 + i = k + i + 1 by omega]; exact co_zp k q i
theorem pdiv {q : Po} {m : Nat} {d : Int} (l : Lead q m d) : ∀ (n : Nat) (p : Po), (∀ i, n ≤ i → co p i = 0) → ∃ (c : Int) (s r : Po), c ≠ 0 ∧ (∀ x, c * ev p x = ev s x * ev q x + ev r x) ∧ ∀ i, m ≤ i → co r i = 0
  | 0, p, h => ⟨1, [], p, by decide, fun x => by show 1 * ev p x = 0 * _ + _; omega, fun i _ => h i (Nat.zero_le _)⟩
  | n + 1, p, h => by
    rcases Nat.lt_or_ge n m with lt | ge
    · exact ⟨1, [], p, by decide, fun x => by show 1 * ev p x = 0 * _ + _; omega, fun i hi => h i (by omega)⟩
    · have cz : ∀ i, co (add (smul d p) (smul (-(co p n)) (zp (n - m) q))) i = d * co p i + -(co p n) * co (zp (n - m) q) i := fun i => by rw [co_add, co_smul, co_smul]
      obtain ⟨c, s, r, hc, he, hr⟩ := pdiv l n (add (smul d p) (smul (-(co p n)) (zp (n - m) q))) fun i hi => by
        rw [cz, show i = (n - m) + (m + (i - n)) by omega, co_zp]
        rcases Nat.eq_or_lt_of_le hi with e | lt
        · subst e
          rw [show m + (n - n) = m by omega, l.at_, show n - m + m = n by omega]; grind
        · rw [l.hi (m + (i - n)) (by omega), show n - m + (m + (i - n)) = i by omega, h i (by omega)]; simp
      refine ⟨c * d, add s (smul (c * co p n) (zp (n - m) [1])), r, fun e => (Int.mul_eq_zero.mp e).elim hc l.ne, fun x => ?_, hr⟩
      have := he x
      rw [ev_add, ev_smul, ev_smul, ev_zp] at this
      rw [ev_add, ev_smul, ev_zp]
      have e1 : ev [1] x = 1 := by show 1 + x * 0 = (1 : Int); omega
      rw [e1]
      grind
theorem ext_gcd : ∀ (n : Nat) (p q : Po), (∀ i, n ≤ i → co q i = 0) → (NZ p ∨ NZ q) → ∃ (g s t u v : Po) (c e : Int), NZ g ∧ c ≠ 0 ∧ e ≠ 0 ∧ (∀ x, ev g x = ev s x * ev p x + ev t x * ev q x) ∧ (∀ x, c * ev p x = ev g x * ev u x) ∧ ∀ x, e * ev q x = ev g x * ev v x := fun n => by
  have one : ∀ x, ev [1] x = 1 := fun x => by show 1 + x * 0 = (1 : Int); omega
  have base : ∀ p q : Po, (∀ i, co q i = 0) → (NZ p ∨ NZ q) → ∃ (g s t u v : Po) (c e : Int), NZ g ∧ c ≠ 0 ∧ e ≠ 0 ∧ (∀ x, ev g x = ev s x * ev p x + ev t x * ev q x) ∧ (∀ x, c * ev p x = ev g x * ev u x) ∧ ∀ x, e * ev q x = ev g x * ev v x := fun p q hq hz => by
    have hp : NZ p := hz.elim id fun ⟨i, hi⟩ => absurd (hq i) hi
    exact ⟨p, [1], [], [1], [], 1, 1, hp, by decide, by decide, fun x => by rw [one]; show _ = 1 * _ + 0 * _; omega, fun x => by rw [one]; omega, fun x => by rw [zero_ev hq]; show _ = _ * 0; omega⟩
  induction n using Nat.strongRecOn with
  | ind n ih =>
    intro p q hq hz
    by_cases nq : NZ q
    · obtain ⟨m, d, l, _⟩ := lead_of nq
      have mn : m < n := Nat.lt_of_not_le fun h => l.ne (l.at_.symm.trans (hq m h))
      obtain ⟨c, w, r, hc, he, hr⟩ := pdiv l p.length p fun i hi => co_len hi
      obtain ⟨g, s, t, u, v, c1, e1, hg, hc1, he1, h1, h2, h3⟩ := ih m mn q r hr (.inl nq)
      refine ⟨g, smul c t, add s (smul (-1) (mul t w)), add (smul e1 (mul w u)) (smul c1 v), u, c * c1 * e1, c1, hg, fun z => ?_, hc1, fun x => ?_, fun x => ?_, h2⟩
      · rcases Int.mul_eq_zero.mp z with z | z
        · exact (Int.mul_eq_zero.mp z).elim hc hc1
        · exact he1 z
      · rw [h1, ev_smul, ev_add, ev_smul, ev_mul]
        have := he x
        grind
      · rw [ev_add, ev_smul, ev_smul, ev_mul]
        have a1 := he x
        have a2 := h2 x
        have a3 := h3 x
        have b1 : c * c1 * e1 * ev p x = c1 * e1 * (c * ev p x) := by grind
        rw [b1, a1]
        have b2 : c1 * e1 * (ev w x * ev q x + ev r x) = e1 * ev w x * (c1 * ev q x) + c1 * (e1 * ev r x) := by grind
        rw [b2, a2, a3]
        grind
    · exact base p q (fun i => Classical.byContradiction fun h => nq ⟨i, h⟩) hz
/-! ### whole factors -/
theorem co_mul : ∀ (p q : Po) (n : Nat), co (mul p q) n = S (n + 1) fun l => co p l * co q (n - l)
  | [], q, n => by
    rw [S_zero fun j _ => by rw [co_nil]; simp]
    exact co_nil n
  | a :: r, q, n => by
    show co (add (smul a q) (0 :: mul r q)) n = _
    rw [co_add, co_smul, S_shift]
    show a * co q n + co (0 :: mul r q) n = a * co q (n - 0) + S n fun j => co r j * co q (n - (j + 1))
    cases n with
    | zero => rfl
    | succ n =>
      rw [co_succ, co_mul r q n]
      have : S (n + 1) (fun l => co r l * co q (n - l)) = S (n + 1) fun j => co r j * co q (n + 1 - (j + 1)) := S_congr fun j _ => by rw [show n + 1 - (j + 1) = n - j by omega]
      rw [this]; rfl
theorem dvd_S {p : Int} : ∀ {n : Nat} {g : Nat → Int}, (∀ l, l < n → p ∣ g l) → p ∣ S n g
  | 0, _, _ => ⟨0, by simp [S]⟩
  | n + 1, g, h => Int.dvd_add (dvd_S fun l hl => h l (by omega)) (h n (by omega))
theorem dvd_one_left {p : Int} : ∀ {n : Nat} {g : Nat → Int} {i : Nat}, i < n → (∀ l, l < n → l ≠ i → p ∣ g l) → p ∣ S n g → p ∣ g i
  | 0, _, _, hi, _, _ => absurd hi (Nat.not_lt_zero _)
  | n + 1, g, i, hi, h, hs => by
    have hs : p ∣ S n g + g n := hs
    by_cases e : i = n
    · subst e
      have h1 : p ∣ S i g := dvd_S fun l hl => h l (by omega) (by omega)
      exact (Int.dvd_add_right h1).mp hs
    · have h1 : p ∣ g n := h n (by omega) fun z => e z.symm
      exact dvd_one_left (by omega) (fun l hl ne => h l (by omega) ne) ((Int.dvd_add_left h1).mp hs)
structure Prm (p : Nat) : Prop where
  two : 2 ≤ p
  dv : ∀ d, d ∣ p → d = 1 ∨ d = p
theorem prm_ex {n : Nat} (h : 2 ≤ n) : ∃ p, Prm p ∧ p ∣ n := by
  induction n using Nat.strongRecOn with
  | ind n ih =>
    by_cases k : ∃ d, d ∣ n ∧ d ≠ 1 ∧ d ≠ n
    · obtain ⟨d, hd, h1, h2⟩ := k
      have d0 : d ≠ 0 := fun e => by rw [e] at hd; have := Nat.eq_zero_of_zero_dvd hd; omega
      have dl := Nat.le_of_dvd (by omega) hd
      obtain ⟨p, hp, hd2⟩ := ih d (by omega) (by omega)
      exact ⟨p, hp, Nat.dvd_trans hd2 hd⟩
    · exact ⟨n, ⟨h, fun d hd => Classical.byContradiction fun z => k ⟨d, hd, fun e => z (.inl e), fun e => z (.inr e)⟩⟩, Nat.dvd_refl n⟩
theorem prm_mul {p : Nat} (hp : Prm p) {x y : Int} (h : (p : Int) ∣ x * y) : (p : Int) ∣ x ∨ (p : Int) ∣ y := by
  have h' : p ∣ x.natAbs * y.natAbs := by
    rw [← Int.natAbs_mul]
    exact Int.ofNat_dvd_left.mp h
  rcases hp.dv (Nat.gcd p x.natAbs) (Nat.gcd_dvd_left _ _) with g | g
  · exact .inr (Int.ofNat_dvd_left.mpr (Nat.Coprime.dvd_of_dvd_mul_left g h'))
  · exact .inl (Int.ofNat_dvd_left.mpr (g ▸ Nat.gcd_dvd_right p x.natAbs))
def DvC (p : Int) (F : Po) : Prop := ∀ i, p ∣ co F i
theorem least {P : Nat → Prop} (h : ∃ i, P i) : ∃ i, P i ∧ ∀ j, j < i → ¬ P j := by
  obtain ⟨i, hi⟩ := h
  induction i using Nat.strongRecOn with
  | ind i ih =>
    by_cases k : ∃ j, j < i ∧ P j
    · obtain ⟨j, lt, hj⟩ := k
      exact ih j lt hj
    · exact ⟨i, hi, fun j lt hj => k ⟨j, lt, hj⟩⟩
theorem gauss_p {p : Nat} (hp : Prm p) {F V : Po} (h : DvC p (mul F V)) : DvC p F ∨ DvC p V := by
  refine Classical.byContradiction fun z => ?_
  have z1 : ∃ i, ¬ (p : Int) ∣ co F i := Classical.byContradiction fun k => z (.inl fun i => Classical.byContradiction fun q => k ⟨i, q⟩)
  have z2 : ∃ i, ¬ (p : Int) ∣ co V i := Classical.byContradiction fun k => z (.inr fun i => Classical.byContradiction fun q => k ⟨i, q⟩)
  obtain ⟨i, hi, li⟩ := least z1
  obtain ⟨j, hj, lj⟩ := least z2
  have h1 := h (i + j)
  rw [co_mul] at h1
  have h2 := dvd_one_left (i := i) (by omega) (fun l hl ne => by
    rcases Nat.lt_or_ge l i with lt | ge
    · exact Int.dvd_trans (Classical.byContradiction fun k => li l lt k) (Int.dvd_mul_right _ _)
    · exact Int.dvd_trans (Classical.byContradiction fun k => lj (i + j - l) (by omega) k) (Int.dvd_mul_left _ _)) h1
  rw [show i + j - i = j by omega] at h2
  exact (prm_mul hp h2).elim hi hj
theorem div_co {c : Int} (hc : c ≠ 0) {w : Po} (h : DvC c w) : ∃ w' : Po, ∀ x, ev w x = c * ev w' x := by
  induction w with
  | nil => exact ⟨[], fun x => by show (0 : Int) = c * 0; omega⟩
  | cons a r ih =>
    obtain ⟨r', hr⟩ := ih fun i => h (i + 1)
    obtain ⟨b, hb⟩ := h 0
    refine ⟨b :: r', fun x => ?_⟩
    show a + x * ev r x = c * (b + x * ev r' x)
    have : a = c * b := hb
    rw [hr x, this]; grind
end SerM
namespace SerM
theorem canc {c : Int} (hc : c ≠ 0) {x y : Int} (h : c * x = c * y) : x = y := Int.eq_of_mul_eq_mul_left hc h
/-- the first coefficient of a factor divides it, where the whole begins with 1 -/
theorem first_dvd : ∀ (n : Nat) (q F V : Po) (a b : Int), a.natAbs * b.natAbs ≤ n → a ≠ 0 → b ≠ 0 → ev F 0 = a → ev V 0 = b → (∀ x, a * b * ev q x = ev F x * ev V x) → DvC a F := fun n => by
  induction n using Nat.strongRecOn with
  | ind n ih =>
    intro q F V a b hn ha hb hF hV he
    have a1 : 1 ≤ a.natAbs := Int.natAbs_pos.mpr ha
    have b1 : 1 ≤ b.natAbs := Int.natAbs_pos.mpr hb
    by_cases one : a.natAbs = 1
    · intro i
      rcases Int.natAbs_eq a with e | e
      · rw [e, one]; exact Int.one_dvd _
      · rw [e, one]; exact Int.neg_dvd.mpr (Int.one_dvd _)
    obtain ⟨p, hp, hd⟩ := prm_ex (n := a.natAbs) (by omega)
    have p2 := hp.two
    have p0 : (p : Int) ≠ 0 := by omega
    obtain ⟨a', ea⟩ : (p : Int) ∣ a := Int.ofNat_dvd_left.mpr hd
    have ha' : a' ≠ 0 := fun z => ha (by rw [ea, z]; simp)
    have na : a.natAbs = p * a'.natAbs := by rw [ea, Int.natAbs_mul, Int.natAbs_natCast]
    have a'1 : 1 ≤ a'.natAbs := Int.natAbs_pos.mpr ha'
    have lt1 : a'.natAbs < a.natAbs := by
      rw [na]
      have : 2 * a'.natAbs ≤ p * a'.natAbs := Nat.mul_le_mul_right _ p2
      omega
    have dm : DvC p (mul F V) := fun i => by
      have := co_of_ev (p := mul F V) (q := smul (a * b) q) 0 (fun x _ => by rw [ev_mul, ev_smul, he]) i
      rw [this, co_smul, ea]
      exact ⟨a' * b * co q i, by grind⟩
    rcases gauss_p hp dm with d | d
    · obtain ⟨F', hF'⟩ := div_co p0 d
      have f0 : ev F' 0 = a' := canc p0 (by rw [← hF', hF, ea])
      have ih' := ih (a'.natAbs * b.natAbs) (by
        have : a'.natAbs * b.natAbs < a.natAbs * b.natAbs := Nat.mul_lt_mul_of_pos_right lt1 b1
        omega) q F' V a' b (Nat.le_refl _) ha' hb f0 hV fun x => canc p0 (by
          have := he x
          rw [hF' x, ea] at this
          grind)
      intro i
      obtain ⟨w, hw⟩ := ih' i
      have := co_of_ev (p := F) (q := smul p F') 0 (fun x _ => by rw [hF', ev_smul]) i
      rw [this, co_smul, hw, ea]
      exact ⟨w, by grind⟩
    · obtain ⟨V', hV'⟩ := div_co p0 d
      obtain ⟨b', eb⟩ : ∃ b', b = p * b' := ⟨ev V' 0, by rw [← hV, hV']⟩
      have v0 : ev V' 0 = b' := canc p0 (by rw [← hV', hV, eb])
      have hb' : b' ≠ 0 := fun z => hb (by rw [eb, z]; simp)
      have nb : b.natAbs = p * b'.natAbs := by rw [eb, Int.natAbs_mul, Int.natAbs_natCast]
      have b'1 : 1 ≤ b'.natAbs := Int.natAbs_pos.mpr hb'
      have lt2 : b'.natAbs < b.natAbs := by
        rw [nb]
        have : 2 * b'.natAbs ≤ p * b'.natAbs := Nat.mul_le_mul_right _ p2
        omega
      exact ih (a.natAbs * b'.natAbs) (by
        have : a.natAbs * b'.natAbs < a.natAbs * b.natAbs := Nat.mul_lt_mul_of_pos_left lt2 a1
        omega) q F V' a b' (Nat.le_refl _) ha hb' hF v0 fun x => canc p0 (by
          have := he x
          rw [hV' x, eb] at this
          grind)
/-- what divides c times p divides p, if it begins with 1 -/
theorem dv_whole {c : Int} (hc : c ≠ 0) {p h w : Po} (h0 : ev h 0 = 1) (he : ∀ x, c * ev p x = ev h x * ev w x) : Dv h p := by
  have key : DvC c w := fun i => by
    induction i using Nat.strongRecOn with
    | ind i ih =>
      have e := co_of_ev (p := mul h w) (q := smul c p) 0 (fun x _ => by rw [ev_mul, ev_smul, he]) i
      rw [co_mul, co_smul, S_shift, co0_ev, h0, Nat.sub_zero] at e
      have d1 : c ∣ S i fun j => co h (j + 1) * co w (i - (j + 1)) := dvd_S fun j hj => Int.dvd_trans (ih (i - (j + 1)) (by omega)) (Int.dvd_mul_left _ _)
      obtain ⟨k, hk⟩ := d1
      exact ⟨co p i - k, by rw [hk] at e; grind⟩
  obtain ⟨w', hw⟩ := div_co hc key
  exact ⟨w', fun x => canc hc (by rw [he, hw]; grind)⟩
/-- a common factor up to numbers gives a whole one that begins with 1 -/
theorem norm_common {p q g u v : Po} {c e : Int} {m : Nat} {d : Int} (hc : c ≠ 0) (he : e ≠ 0) (h1 : ∀ x, c * ev p x = ev g x * ev u x) (h2 : ∀ x, e * ev q x = ev g x * ev v x) (q1 : ev q 0 = 1) (l : Lead g m d) : ∃ (h : Po) (d' : Int), ev h 0 = 1 ∧ Lead h m d' ∧ Dv h p ∧ Dv h q := by
  have e0 := h2 0
  rw [q1, Int.mul_one] at e0
  have g0 : ev g 0 ≠ 0 := fun z => he (by rw [e0, z]; simp)
  have v0 : ev v 0 ≠ 0 := fun z => he (by rw [e0, z]; simp)
  obtain ⟨h, hh⟩ := div_co g0 (first_dvd _ q g v (ev g 0) (ev v 0) (Nat.le_refl _) g0 v0 rfl rfl fun x => by rw [← e0]; exact h2 x)
  have h0 : ev h 0 = 1 := canc g0 (by rw [← hh]; omega)
  have coh : ∀ i, co g i = ev g 0 * co h i := fun i => by
    have := co_of_ev (p := g) (q := smul (ev g 0) h) 0 (fun x _ => by rw [ev_smul]; exact hh x) i
    rw [co_smul] at this
    exact this
  refine ⟨h, co h m, h0, ⟨rfl, fun z => l.ne (by rw [← l.at_, coh, z]; simp), fun i hi => canc g0 (by rw [← coh, l.hi i hi]; simp)⟩, dv_whole hc h0 (w := smul (ev g 0) u) fun x => by rw [h1, hh, ev_smul]; grind, dv_whole he h0 (w := smul (ev g 0) v) fun x => by rw [h2, hh, ev_smul]; grind⟩
/-- no common factor but 1 -/
def Cop (p q : Po) : Prop := ∀ (h : Po) (m : Nat) (c : Int), ev h 0 = 1 → Lead h m c → Dv h p → Dv h q → m = 0
theorem lead0 {g : Po} {d : Int} (l : Lead g 0 d) (x : Int) : ev g x = d := by
  rw [ev_S (n := 1) x fun i hi => l.hi i (by omega)]
  show 0 + co g 0 * x ^ 0 = d
  rw [l.at_, Int.pow_zero]; omega
theorem nz_of1 {q : Po} (q1 : ev q 0 = 1) : NZ q := ⟨0, by rw [co0_ev, q1]; decide⟩
theorem bez {p q : Po} (q1 : ev q 0 = 1) (hc : Cop p q) : ∃ (s t : Po) (r : Int), r ≠ 0 ∧ ∀ x, ev s x * ev p x + ev t x * ev q x = r := by
  obtain ⟨g, s, t, u, v, c, e, hg, c0, e0, h1, h2, h3⟩ := ext_gcd q.length p q (fun i hi => co_len hi) (.inr (nz_of1 q1))
  obtain ⟨m, d, l, _⟩ := lead_of hg
  obtain ⟨h, d', a1, a2, a3, a4⟩ := norm_common c0 e0 h2 h3 q1 l
  have m0 := hc h m d' a1 a2 a3 a4
  subst m0
  exact ⟨s, t, d, l.ne, fun x => by rw [← h1, lead0 l]⟩
/-- the greatest common factor that begins with 1 -/
theorem gcd_ex : ∀ (n : Nat) (p q : Po), (∀ i, n ≤ i → co q i = 0) → ev q 0 = 1 → ∃ (g a b : Po), ev g 0 = 1 ∧ ev b 0 = 1 ∧ (∀ x, ev p x = ev g x * ev a x) ∧ (∀ x, ev q x = ev g x * ev b x) ∧ Cop a b := fun n => by
  have one : ∀ x, ev [1] x = 1 := fun x => by show 1 + x * 0 = (1 : Int); omega
  induction n using Nat.strongRecOn with
  | ind n ih =>
    intro p q hn q1
    by_cases hc : Cop p q
    · exact ⟨[1], p, q, one 0, q1, fun x => by rw [one]; omega, fun x => by rw [one]; omega, hc⟩
    · have : ∃ (h : Po) (m : Nat) (c : Int), ev h 0 = 1 ∧ Lead h m c ∧ Dv h p ∧ Dv h q ∧ m ≠ 0 := Classical.byContradiction fun k => hc fun h m c a1 a2 a3 a4 => Classical.byContradiction fun z => k ⟨h, m, c, a1, a2, a3, a4, z⟩
      obtain ⟨h, m, c, h0, l, ⟨p', hp⟩, ⟨q', hq⟩, m0⟩ := this
      have q'1 : ev q' 0 = 1 := by have := hq 0; rw [q1, h0] at this; omega
      obtain ⟨k, d, lk, _⟩ := lead_of (nz_of1 q'1)
      have lq : Lead q (m + k) (c * d) := by
        have lm := lead_mul l lk
        have ce := co_of_ev (p := q) (q := mul h q') 0 fun x _ => by rw [hq, ev_mul]
        exact ⟨(ce _).trans lm.at_, lm.ne, fun i hi => (ce i).trans (lm.hi i hi)⟩
      have kn : m + k < n := Nat.lt_of_not_le fun z => lq.ne (lq.at_.symm.trans (hn _ z))
      obtain ⟨g, a, b, g0, b0, ha, hb, cop⟩ := ih (k + 1) (by omega) p' q' (fun i hi => lk.hi i (by omega)) q'1
      exact ⟨mul h g, a, b, by rw [ev_mul, h0, g0]; rfl, b0, fun x => by rw [hp, ha, ev_mul]; grind, fun x => by rw [hq, hb, ev_mul]; grind, cop⟩
end SerM
namespace SerM
/-! ### the reduced form is the only one -/
theorem ev_cancel {p a b : Po} (hp : NZ p) (h : ∀ x, ev p x * ev a x = ev p x * ev b x) : ∀ x, ev a x = ev b x := by
  obtain ⟨N, _, hN⟩ := nz_big hp
  exact ev_of_co (co_of_ev N fun x hx => canc (hN x hx) (h x))
theorem dv_eq {p q : Po} (p1 : ev p 0 = 1) (q1 : ev q 0 = 1) (h : Dv p q) (k : Dv q p) : ∀ x, ev p x = ev q x := by
  obtain ⟨u, hu⟩ := h
  obtain ⟨v, hv⟩ := k
  have u1 : ev u 0 = 1 := by have := hu 0; rw [p1, q1] at this; omega
  have v1 : ev v 0 = 1 := by have := hv 0; rw [p1, q1] at this; omega
  have uv : ∀ x, ev (mul u v) x = ev [1] x := ev_cancel (nz_of1 p1) fun x => by
    have e1 : ev [1] x = 1 := by show 1 + x * 0 = (1 : Int); omega
    rw [ev_mul, e1]
    have a1 := hu x
    have a2 := hv x
    rw [a1] at a2
    grind
  obtain ⟨m, c, lu, _⟩ := lead_of (nz_of1 u1)
  obtain ⟨n, d, lv, _⟩ := lead_of (nz_of1 v1)
  have l1 : Lead [1] 0 1 := ⟨rfl, by decide, fun i hi => by
    cases i with
    | zero => omega
    | succ i => exact co_nil i⟩
  have ce := co_of_ev (p := [1]) (q := mul u v) 0 fun x _ => (uv x).symm
  have lm := lead_mul lu lv
  have := (lead_uniq l1 ⟨(ce _).trans lm.at_, lm.ne, fun i hi => (ce i).trans (lm.hi i hi)⟩).1
  have m0 : m = 0 := by omega
  subst m0
  intro x
  have c1 : c = 1 := by rw [← lead0 lu 0]; exact u1
  rw [hu, lead0 lu, c1]; omega
theorem cop_uniq {t1 b1 t2 b2 : Po} (c1 : Cop t1 b1) (c2 : Cop t2 b2) (h1 : ev b1 0 = 1) (h2 : ev b2 0 = 1) (he : ∀ x, ev t1 x * ev b2 x = ev t2 x * ev b1 x) : (∀ x, ev t1 x = ev t2 x) ∧ ∀ x, ev b1 x = ev b2 x := by
  have half : ∀ {t1 b1 t2 b2 : Po}, Cop t1 b1 → ev b1 0 = 1 → (∀ x, ev t1 x * ev b2 x = ev t2 x * ev b1 x) → Dv b1 b2 := fun {t1 b1 t2 b2} c h he => by
    obtain ⟨s, t, r, r0, hr⟩ := bez h c
    exact dv_whole r0 h (w := add (mul s t2) (mul t b2)) fun x => by
      rw [ev_add, ev_mul, ev_mul, ← hr x]
      have := he x
      grind
  have eb := dv_eq h1 h2 (half c1 h1 he) (half c2 h2 fun x => (he x).symm)
  exact ⟨ev_cancel (nz_of1 h1) fun x => by have := he x; rw [← eb x] at this; grind, eb⟩
/-! ### lists without zeros at the end -/
def Tm (p : Po) : Prop := ∀ h : p ≠ [], p.getLast h ≠ 0
def trim : Po → Po
  | [] => []
  | a :: r => match trim r with
    | [] => if a = 0 then [] else [a]
    | b :: s => a :: b :: s
theorem trim_co : ∀ (p : Po) (i : Nat), co (trim p) i = co p i
  | [], i => rfl
  | a :: r, i => by
    have ih := trim_co r
    unfold trim
    cases e : trim r with
    | nil =>
      rw [e] at ih
      by_cases a0 : a = 0
      · simp only [a0, if_true]
        cases i with
        | zero => rfl
        | succ i => rw [co_succ, ← ih i]; rfl
      · simp only [a0, if_false]
        cases i with
        | zero => rfl
        | succ i => rw [co_succ, co_succ, ← ih i]
    | cons b s =>
      rw [e] at ih
      cases i with
      | zero => rfl
      | succ i => exact ih i
theorem trim_tm : ∀ p : Po, Tm (trim p)
  | [] => fun h => absurd rfl h
  | a :: r => by
    have ih := trim_tm r
    unfold trim
    cases e : trim r with
    | nil =>
      by_cases a0 : a = 0
      · simp only [a0, if_true]; exact fun h => absurd rfl h
      · simp only [a0, if_false]; exact fun h => a0
    | cons b s =>
      rw [e] at ih
      intro h
      show (a :: b :: s).getLast h ≠ 0
      rw [List.getLast_cons (by simp)]
      exact ih (by simp)
theorem tm_lead {p : Po} (h : Tm p) (ne : p ≠ []) : Lead p (p.length - 1) (p.getLast ne) := by
  have hl : 0 < p.length := List.length_pos_iff.mpr ne
  refine ⟨?_, h ne, fun i hi => co_len (by omega)⟩
  unfold co
  rw [List.getD_eq_getElem?_getD, List.getLast_eq_getElem, List.getElem?_eq_getElem (by omega)]; rfl
theorem co_ext : ∀ {p q : Po}, p.length = q.length → (∀ i, co p i = co q i) → p = q
  | [], [], _, _ => rfl
  | a :: p, b :: q, hl, h => by
    have h0 : a = b := h 0
    rw [h0, co_ext (p := p) (q := q) (by simpa using hl) fun i => h (i + 1)]
theorem tm_nil {p : Po} (h : Tm p) : (∀ i, co p i = 0) ↔ p = [] := by
  constructor
  · intro z
    refine Classical.byContradiction fun ne => ?_
    have l := tm_lead h ne
    exact l.ne (l.at_.symm.trans (z _))
  · intro e i; rw [e]; exact co_nil i
/-- equal coefficients, equal lists -/
theorem tm_ext {p q : Po} (hp : Tm p) (hq : Tm q) (h : ∀ i, co p i = co q i) : p = q := by
  by_cases np : p = []
  · subst np
    exact ((tm_nil hq).mp fun i => by rw [← h]; exact co_nil i).symm
  · by_cases nq : q = []
    · subst nq
      exact (tm_nil hp).mp fun i => by rw [h]; exact co_nil i
    · have l1 := tm_lead hp np
      have l2 := tm_lead hq nq
      have := (lead_uniq l1 ⟨(h _).trans l2.at_, l2.ne, fun i hi => (h i).trans (l2.hi i hi)⟩).1
      have h1 : 0 < p.length := List.length_pos_iff.mpr np
      have h2 : 0 < q.length := List.length_pos_iff.mpr nq
      exact co_ext (by omega) h
theorem trim_ev (p : Po) (x : Int) : ev (trim p) x = ev p x := ev_of_co (trim_co p) x
theorem trim_len (p : Po) : (trim p).length ≤ p.length := by
  by_cases ne : trim p = []
  · rw [ne]; exact Nat.zero_le _
  · have l := tm_lead (trim_tm p) ne
    refine Nat.le_of_not_lt fun lt => l.ne (l.at_.symm.trans ?_)
    rw [trim_co]
    exact co_len (by omega)
theorem trim_id {p : Po} (h : Tm p) : trim p = p := tm_ext (trim_tm p) h (trim_co p)
/-! ### whether two have no common factor, by remainders -/
/-- one step of a division: the ends cancel -/
def step (f o : Po) : Po := trim (add (smul (o.getLastD 0) f) (smul (-(f.getLastD 0)) (zp (f.length - o.length) o)))
theorem lastD_tm {p : Po} (ne : p ≠ []) : p.getLastD 0 = p.getLast ne := by
  cases p with
  | nil => exact absurd rfl ne
  | cons a r => rfl
theorem step_len {f o : Po} (hf : Tm f) (ho : Tm o) (no : o ≠ []) (hl : o.length ≤ f.length) : (step f o).length < f.length := by
  have ol : 0 < o.length := List.length_pos_iff.mpr no
  have nf : f ≠ [] := fun e => by rw [e] at hl; simp at hl; exact no hl
  have lf := tm_lead hf nf
  have lo := tm_lead ho no
  by_cases ne : step f o = []
  · rw [ne]; show 0 < f.length; omega
  · have l := tm_lead (trim_tm _) ne
    have cz : ∀ i, f.length - 1 ≤ i → co (step f o) i = 0 := fun i hi => by
      unfold step
      rw [trim_co, co_add, co_smul, co_smul, lastD_tm nf, lastD_tm no, show i = (f.length - o.length) + (i - (f.length - o.length)) by omega, co_zp]
      rcases Nat.eq_or_lt_of_le hi with e | lt
      · rw [show f.length - o.length + (i - (f.length - o.length)) = f.length - 1 by omega, show i - (f.length - o.length) = o.length - 1 by omega, lf.at_, lo.at_]; grind
      · rw [lf.hi _ (by omega), lo.hi _ (by omega)]; simp
    refine Nat.lt_of_not_le fun ge => l.ne (l.at_.symm.trans (cz _ ?_))
    show f.length - 1 ≤ (step f o).length - 1
    omega
theorem step_ev {f o : Po} (x : Int) : ev (step f o) x = o.getLastD 0 * ev f x + -(f.getLastD 0 * x ^ (f.length - o.length)) * ev o x := by
  unfold step
  rw [trim_ev, ev_add, ev_smul, ev_smul, ev_zp]; grind
def rest : Nat → Po → Po → Po
  | 0, f, _ => f
  | n + 1, f, o => if o.length ≤ f.length then rest n (step f o) o else rest n f o
theorem rest_spec {o : Po} (ho : Tm o) (no : o ≠ []) : ∀ (n : Nat) (f : Po), Tm f → f.length < o.length + n → Tm (rest n f o) ∧ (rest n f o).length < o.length ∧ ∃ (c : Int) (w : Po), c ≠ 0 ∧ ∀ x, ev (rest n f o) x = c * ev f x + ev w x * ev o x
  | 0, f, hf, hl => ⟨hf, by show f.length < _; omega, 1, [], by decide, fun x => by show ev f x = 1 * ev f x + 0 * _; omega⟩
  | n + 1, f, hf, hl => by
    unfold rest
    by_cases le : o.length ≤ f.length
    · rw [if_pos le]
      have sl := step_len hf ho no le
      obtain ⟨h1, h2, c, w, hc, hw⟩ := rest_spec ho no n (step f o) (trim_tm _) (by omega)
      have l0 : o.getLastD 0 ≠ 0 := by rw [lastD_tm no]; exact ho no
      refine ⟨h1, h2, c * o.getLastD 0, add w (smul (-(c * f.getLastD 0)) (zp (f.length - o.length) [1])), fun z => (Int.mul_eq_zero.mp z).elim hc l0, fun x => ?_⟩
      have e1 : ev [1] x = 1 := by show 1 + x * 0 = (1 : Int); omega
      rw [hw, step_ev, ev_add, ev_smul, ev_zp, e1]; grind
    · rw [if_neg le]
      exact rest_spec ho no n f hf (by omega)
/-- the law's own way: true if the last one left is a number -/
def copr : Nat → Po → Po → Bool
  | 0, _, _ => false
  | n + 1, f, s => if s = [] then f.length == 1 else copr n s (rest f.length f s)
theorem copr_ok {p q : Po} (hc : Cop p q) (q1 : ev q 0 = 1) : ∀ (n : Nat) (f s : Po), Tm f → Tm s → (f ≠ [] ∨ s ≠ []) → s.length < n →
    (∀ (g u v : Po) (c e : Int), c ≠ 0 → e ≠ 0 → (∀ x, c * ev f x = ev g x * ev u x) → (∀ x, e * ev s x = ev g x * ev v x) → ∃ (u' v' : Po) (c' e' : Int), c' ≠ 0 ∧ e' ≠ 0 ∧ (∀ x, c' * ev p x = ev g x * ev u' x) ∧ ∀ x, e' * ev q x = ev g x * ev v' x) → copr n f s = true
  | 0, f, s, _, _, _, hl, _ => absurd hl (Nat.not_lt_zero _)
  | n + 1, f, s, hf, hs, hn, hl, hd => by
    unfold copr
    by_cases e : s = []
    · rw [if_pos e]
      have nf : f ≠ [] := hn.elim id fun h => absurd e h
      have lf := tm_lead hf nf
      obtain ⟨u', v', c', e', h1, h2, h3, h4⟩ := hd f [1] [] 1 1 (by decide) (by decide) (fun x => by show 1 * ev f x = ev f x * (1 + x * 0); grind) (fun x => by rw [e]; show 1 * 0 = ev f x * 0; omega)
      obtain ⟨h, d, a1, a2, a3, a4⟩ := norm_common h1 h2 h3 h4 q1 lf
      have := hc h _ d a1 a2 a3 a4
      have fl : 0 < f.length := List.length_pos_iff.mpr nf
      exact beq_iff_eq.mpr (by omega)
    · rw [if_neg e]
      have sl : 0 < s.length := List.length_pos_iff.mpr e
      obtain ⟨r1, r2, c0, w, hc0, hw⟩ := rest_spec hs e f.length f hf (by omega)
      refine copr_ok hc q1 n s (rest f.length f s) hs r1 (.inl e) (by omega) fun g u v c e' h1 h2 h3 h4 => ?_
      -- g divides f, too
      refine hd g (add (smul c v) (smul (-e') (mul w u))) u (c * e' * c0) c (fun z => ?_) h1 (fun x => ?_) h3
      · rcases Int.mul_eq_zero.mp z with z | z
        · exact (Int.mul_eq_zero.mp z).elim h1 h2
        · exact hc0 z
      · rw [ev_add, ev_smul, ev_smul, ev_mul]
        have b1 := hw x
        have b2 := h3 x
        have b3 := h4 x
        have b4 : c * e' * c0 * ev f x = c * (e' * ev (rest f.length f s) x) - e' * ev w x * (c * ev s x) := by rw [b1]; grind
        rw [b4, b2, b3]; grind
theorem copr_true {p q : Po} (hc : Cop p q) (q1 : ev q 0 = 1) (hp : Tm p) (hq : Tm q) {n : Nat} (hn : q.length < n) : copr n p q = true :=
  copr_ok hc q1 n p q hp hq (.inr fun e => by rw [e] at q1; exact absurd q1 (by decide)) hn fun g u v c e h1 h2 h3 h4 => ⟨u, v, c, e, h1, h2, h3, h4⟩
end SerM
namespace SerM
/-! ### balanced digits; X = 2 Y, 2 ≤ Y -/
def dg (Y r : Int) : Int := if Y < r % (2 * Y) then r % (2 * Y) - 2 * Y else r % (2 * Y)
def digs (Y : Int) : Nat → Int → Po
  | 0, _ => []
  | n + 1, r => if r = 0 then [] else dg Y r :: digs Y n ((r - dg Y r) / (2 * Y))
theorem dg_dvd {Y : Int} (r : Int) : ∃ e, r - dg Y r = 2 * Y * e := by
  have h := Int.emod_add_mul_ediv r (2 * Y)
  unfold dg
  split
  · exact ⟨r / (2 * Y) + 1, by rw [Int.mul_add]; omega⟩
  · exact ⟨r / (2 * Y), by omega⟩
theorem dg_rng {Y : Int} (hY : 2 ≤ Y) (r : Int) : -Y < dg Y r ∧ dg Y r ≤ Y := by
  have h1 := Int.emod_nonneg r (show 2 * Y ≠ 0 by omega)
  have h2 := Int.emod_lt_of_pos r (show 0 < 2 * Y by omega)
  unfold dg
  split <;> omega
theorem dg_next {Y : Int} (hY : 2 ≤ Y) {r : Int} : ∃ e, (r - dg Y r) / (2 * Y) = e ∧ r = dg Y r + 2 * Y * e := by
  obtain ⟨e, he⟩ := dg_dvd (Y := Y) r
  exact ⟨e, by rw [he, Int.mul_ediv_cancel_left _ (show 2 * Y ≠ 0 by omega)], by omega⟩
theorem dg_small {Y : Int} (hY : 2 ≤ Y) {r e : Int} (hr : r ≠ 0) (h : r = dg Y r + 2 * Y * e) : e.natAbs < r.natAbs := by
  obtain ⟨a, b⟩ := dg_rng hY r
  rcases Int.lt_trichotomy e 0 with z | z | z
  · have : 2 * Y * e ≤ 4 * e := by
      have := Int.mul_le_mul_of_nonneg_right (show 4 ≤ 2 * Y by omega) (show 0 ≤ -e by omega)
      rw [Int.mul_neg, Int.mul_neg] at this; omega
    have h3 : 2 * Y * e ≤ -(2 * Y) := by
      have := Int.mul_le_mul_of_nonneg_left (show 1 ≤ -e by omega) (show 0 ≤ 2 * Y by omega)
      rw [Int.mul_neg] at this; omega
    omega
  · omega
  · have : 4 * e ≤ 2 * Y * e := Int.mul_le_mul_of_nonneg_right (by omega) (by omega)
    have h3 : 2 * Y ≤ 2 * Y * e := by
      have := Int.mul_le_mul_of_nonneg_left (show 1 ≤ e by omega) (show 0 ≤ 2 * Y by omega)
      omega
    omega
theorem digs_ev {Y : Int} (hY : 2 ≤ Y) : ∀ (n : Nat) (r : Int), r.natAbs ≤ n → ev (digs Y n r) (2 * Y) = r
  | 0, r, h => by
    have : r = 0 := by omega
    subst this; rfl
  | n + 1, r, h => by
    by_cases r0 : r = 0
    · subst r0; simp [digs, ev]
    · obtain ⟨e, h1, h2⟩ := dg_next hY (r := r)
      have hs := dg_small hY r0 h2
      have ih := digs_ev hY n e (by omega)
      simp only [digs, r0, if_false, h1]
      show dg Y r + 2 * Y * ev (digs Y n e) (2 * Y) = r
      rw [ih]; omega
theorem digs_rng {Y : Int} (hY : 2 ≤ Y) : ∀ (n : Nat) (r : Int) (i : Nat), -Y < co (digs Y n r) i ∧ co (digs Y n r) i ≤ Y
  | 0, r, i => by rw [show digs Y 0 r = [] from rfl, co_nil]; omega
  | n + 1, r, i => by
    by_cases r0 : r = 0
    · simp only [digs, r0, if_true, co_nil]; omega
    · simp only [digs, r0, if_false]
      cases i with
      | zero => exact dg_rng hY r
      | succ i => exact digs_rng hY n _ i
theorem digs_tm {Y : Int} (hY : 2 ≤ Y) : ∀ (n : Nat) (r : Int), r.natAbs ≤ n → Tm (digs Y n r)
  | 0, r, _ => fun h => absurd rfl h
  | n + 1, r, hn => by
    by_cases r0 : r = 0
    · simp only [digs, r0, if_true]; exact fun h => absurd rfl h
    · obtain ⟨e, h1, h2⟩ := dg_next hY (r := r)
      have hs := dg_small hY r0 h2
      have ih := digs_tm hY n e (by omega)
      have ie := digs_ev hY n e (by omega)
      simp only [digs, r0, if_false, h1]
      intro h
      by_cases q : digs Y n e = []
      · rw [q] at ie
        have e0 : e = 0 := ie.symm
        subst e0
        simp only [q]
        show dg Y r ≠ 0
        omega
      · rw [List.getLast_cons q]; exact ih q
theorem digs_zero {Y : Int} : ∀ n, digs Y n 0 = []
  | 0 => rfl
  | n + 1 => by simp [digs]
theorem dg_of {Y a e : Int} (hY : 2 ≤ Y) (h1 : -Y < a) (h2 : a ≤ Y) : dg Y (a + 2 * Y * e) = a := by
  have hm : (a + 2 * Y * e) % (2 * Y) = a % (2 * Y) := Int.add_mul_emod_self_left a (2 * Y) e
  unfold dg
  rw [hm]
  by_cases z : 0 ≤ a
  · rw [Int.emod_eq_of_lt z (by omega)]; split <;> omega
  · have : a % (2 * Y) = a + 2 * Y := by
      rw [← Int.add_emod_right, Int.emod_eq_of_lt (by omega) (by omega)]
    rw [this]; split <;> omega
/-- balanced digits are the only ones -/
theorem digs_uniq {Y : Int} (hY : 2 ≤ Y) : ∀ (p : Po) (n : Nat), (∀ i, -Y < co p i ∧ co p i ≤ Y) → (ev p (2 * Y)).natAbs ≤ n → ∀ i, co (digs Y n (ev p (2 * Y))) i = co p i
  | [], n, _, _, i => by rw [show ev [] (2 * Y) = 0 from rfl, digs_zero]
  | a :: p, n, hp, hn, i => by
    have ih := digs_uniq hY p
    have ha := hp 0
    rw [co_zero] at ha
    have hp' : ∀ i, -Y < co p i ∧ co p i ≤ Y := fun i => hp (i + 1)
    have ee : ev (a :: p) (2 * Y) = a + 2 * Y * ev p (2 * Y) := rfl
    have hd := dg_of (e := ev p (2 * Y)) hY ha.1 ha.2
    rw [← ee] at hd
    by_cases r0 : ev (a :: p) (2 * Y) = 0
    · rw [r0, digs_zero, co_nil]
      have a0 : a = 0 := by
        rw [← hd, r0]; unfold dg; simp; omega
      have e0 : ev p (2 * Y) = 0 := by
        rw [r0, a0] at ee
        have : 2 * Y * ev p (2 * Y) = 0 := by omega
        rcases Int.mul_eq_zero.mp this with z | z
        · omega
        · exact z
      cases i with
      | zero => rw [co_zero, a0]
      | succ i =>
        have := ih 0 hp' (by rw [e0]; simp) i
        rw [e0, digs_zero, co_nil] at this
        rw [co_succ]; exact this
    · cases n with
      | zero => omega
      | succ n =>
        obtain ⟨e, h1, h2⟩ := dg_next hY (r := ev (a :: p) (2 * Y))
        have hs := dg_small hY r0 h2
        rw [hd, ee] at h2
        have ep : e = ev p (2 * Y) := by
          have : 2 * Y * e = 2 * Y * ev p (2 * Y) := by omega
          exact canc (by omega) this
        simp only [digs, r0, if_false]
        rw [h1, hd, ep]
        cases i with
        | zero => rfl
        | succ i => exact ih n hp' (by rw [← ep]; omega) i
/-! ### begun_with_one -/
def begun (p : Po) : Option Po := if (p.all fun v => v.fdiv (co p 0) * co p 0 == v) then some (p.map fun v => v.fdiv (co p 0)) else none
theorem co_map0 {f : Int → Int} (f0 : f 0 = 0) : ∀ (p : Po) (i : Nat), co (p.map f) i = f (co p i)
  | [], i => by rw [co_nil, f0]; exact co_nil i
  | a :: r, 0 => rfl
  | a :: r, i + 1 => co_map0 f0 r i
theorem begun_some {p F : Po} (p0 : co p 0 ≠ 0) (h : begun p = some F) : (∀ i, co p i = co p 0 * co F i) ∧ co F 0 = 1 ∧ F.length = p.length := by
  unfold begun at h
  split at h
  · rename_i hall
    obtain rfl : (p.map fun v => v.fdiv (co p 0)) = F := Option.some.inj h
    have hc : ∀ i, co (p.map fun v => v.fdiv (co p 0)) i = (co p i).fdiv (co p 0) := co_map0 (f := fun v => v.fdiv (co p 0)) (Int.zero_fdiv _) p
    have hm : ∀ v ∈ p, v.fdiv (co p 0) * co p 0 = v := fun v hv => by
      have := List.all_eq_true.mp hall v hv
      simpa using this
    refine ⟨fun i => ?_, ?_, by simp⟩
    · rw [hc]
      by_cases hi : i < p.length
      · have : co p i ∈ p := by
          unfold co
          rw [List.getD_eq_getElem?_getD, List.getElem?_eq_getElem hi]
          exact List.getElem_mem hi
        have := hm _ this
        rw [Int.mul_comm]; exact this.symm
      · rw [co_len (by omega), Int.zero_fdiv]; omega
    · rw [hc, Int.fdiv_self p0]
  · cases h
theorem begun_ok {p F : Po} {c : Int} (hl : F.length = p.length) (c0 : c ≠ 0) (F0 : co F 0 = 1) (h : ∀ i, co p i = c * co F i) : begun p = some F := by
  have pc : co p 0 = c := by rw [h, F0]; omega
  have hd : ∀ i, (co p i).fdiv (co p 0) = co F i := fun i => by
    rw [pc, h]; exact Int.mul_fdiv_cancel_left _ c0
  unfold begun
  rw [if_pos]
  · congr 1
    exact co_ext (by simp [hl]) fun i => by rw [co_map0 (f := fun v => v.fdiv (co p 0)) (Int.zero_fdiv _), hd]
  · rw [List.all_eq_true]
    intro v hv
    obtain ⟨i, hi, rfl⟩ := List.getElem_of_mem hv
    have e : p[i] = co p i := by unfold co; rw [List.getD_eq_getElem?_getD, List.getElem?_eq_getElem hi]; rfl
    rw [e, hd, pc, h]
    simp [Int.mul_comm]
/-! ### quotient_of -/
def qt (row F : Po) : Nat → Po
  | 0 => []
  | k + 1 => qt row F k ++ [co row k - co (mul (qt row F k) F) k]
theorem qt_len (row F : Po) : ∀ k, (qt row F k).length = k
  | 0 => rfl
  | k + 1 => by simp [qt, qt_len row F k]
theorem ev_app : ∀ (p q : Po) (x : Int), ev (p ++ q) x = ev p x + x ^ p.length * ev q x
  | [], q, x => by simp [ev]
  | a :: p, q, x => by
    show a + x * ev (p ++ q) x = a + x * ev p x + x ^ (p.length + 1) * ev q x
    rw [ev_app p q x, Int.pow_succ]; grind
theorem co_app1 {p : Po} {t : Int} {i : Nat} : co (p ++ [t]) i = if i < p.length then co p i else if i = p.length then t else 0 := by
  unfold co
  simp only [List.getD_eq_getElem?_getD]
  by_cases h : i < p.length
  · simp [h, List.getElem?_append_left h]
  · by_cases k : i = p.length
    · subst k; simp
    · simp only [h, k, if_false]
      rw [List.getElem?_eq_none (by simp; omega)]; rfl
/-- one more step of the division -/
theorem qt_step (row F : Po) (k i : Nat) : co (mul (qt row F (k + 1)) F) i = co (mul (qt row F k) F) i + (if k ≤ i then (co row k - co (mul (qt row F k) F) k) * co F (i - k) else 0) := by
  have hq := qt_len row F k
  generalize ht : co row k - co (mul (qt row F k) F) k = t
  have e : ∀ x, ev (mul (qt row F (k + 1)) F) x = ev (add (mul (qt row F k) F) (zp k (smul t F))) x := fun x => by
    rw [ev_mul, ev_add, ev_mul, ev_zp, ev_smul]
    simp only [qt]
    rw [ht, ev_app, hq]
    show (ev (qt row F k) x + x ^ k * (t + x * 0)) * ev F x = _
    grind
  rw [co_of_ev 0 (fun x _ => e x), co_add]
  congr 1
  by_cases h : k ≤ i
  · simp only [h, if_true]
    obtain ⟨j, rfl⟩ : ∃ j, i = k + j := ⟨i - k, by omega⟩
    rw [co_zp, co_smul]; congr 2; omega
  · simp only [h, if_false]
    have : ∀ (k i : Nat) (q : Po), i < k → co (zp k q) i = 0 := fun k => by
      induction k with
      | zero => intro i q h; omega
      | succ k ih =>
        intro i q h
        cases i with
        | zero => rfl
        | succ i => exact ih i q (by omega)
    exact this _ _ _ (by omega)
theorem qt_ok {row F q : Po} (F0 : co F 0 = 1) (h : ∀ x, ev row x = ev F x * ev q x) : ∀ (k i : Nat), i < k → co (qt row F k) i = co q i
  | 0, i, hi => by omega
  | k + 1, i, hi => by
    have ih := qt_ok F0 h k
    have hq := qt_len row F k
    show co (qt row F k ++ [_]) i = _
    rw [co_app1, hq]
    by_cases z : i < k
    · simp only [z, if_true]; exact ih i z
    · have : i = k := by omega
      subst this
      simp only [Nat.lt_irrefl, if_false, if_true]
      have e1 : co row i = co (mul q F) i := co_of_ev 0 (fun x _ => by rw [ev_mul, h]; grind) i
      rw [e1, co_mul, co_mul]
      show (S i _ + co q i * co F (i - i)) - (S i _ + co (qt row F i) i * co F (i - i)) = _
      rw [S_congr (f := fun l => co (qt row F i) l * co F (i - l)) (g := fun l => co q l * co F (i - l)) fun l hl => by show co (qt row F i) l * _ = _; rw [ih l hl]]
      rw [co_len (by omega : (qt row F i).length ≤ i), Nat.sub_self, F0]; omega
end SerM
namespace SerM
theorem mul_len0 : ∀ (p q : Po) (i : Nat), p.length + q.length ≤ i + 1 → co (mul p q) i = 0 := fun p q i h => by
  rw [co_mul]
  refine S_zero fun l hl => ?_
  by_cases z : l < p.length
  · rw [co_len (p := q) (by omega)]; omega
  · rw [co_len (p := p) (by omega)]; omega
def quo (row F : Po) : Option Po :=
  if ∀ i, i < row.length → co row i = co (mul (qt row F (row.length + 1 - F.length)) F) i then some (qt row F (row.length + 1 - F.length)) else none
theorem quo_some {row F q : Po} (h : quo row F = some q) (F1 : 1 ≤ F.length) : (∀ x, ev row x = ev F x * ev q x) ∧ q.length = row.length + 1 - F.length := by
  unfold quo at h
  split at h
  · rename_i hc
    obtain rfl := Option.some.inj h
    refine ⟨fun x => ?_, qt_len _ _ _⟩
    rw [ev_of_co (q := mul (qt row F (row.length + 1 - F.length)) F) (fun i => ?_) x, ev_mul]
    · grind
    · by_cases hi : i < row.length
      · exact hc i hi
      · by_cases hl : F.length ≤ row.length
        · rw [co_len (by omega), mul_len0 _ _ _ (by rw [qt_len]; omega)]
        · rw [show row.length + 1 - F.length = 0 by omega, co_len (by omega)]
          show 0 = co [] i
          rw [co_nil]
  · cases h
/-- a product of a factor that begins with 1 and a list that doesn't end with 0 -/
theorem quo_ok {row F q : Po} (hr : Tm row) (hF : Tm F) (F0 : co F 0 = 1) (hq : Tm q) (h : ∀ x, ev row x = ev F x * ev q x) : quo row F = some q := by
  have F1 : F ≠ [] := fun z => by rw [z, co_nil] at F0; omega
  by_cases q0 : q = []
  · subst q0
    have r0 : row = [] := (tm_nil hr).mp fun i => by
      rw [co_of_ev (q := []) 0 (fun x _ => by rw [h]; show _ * (0 : Int) = 0; omega) i, co_nil]
    subst r0
    have : F.length ≠ 0 := fun z => F1 (List.length_eq_zero_iff.mp z)
    unfold quo
    rw [if_pos (fun i hi => by simp at hi)]
    have e : ([] : Po).length + 1 - F.length = 0 := by show 0 + 1 - F.length = 0; omega
    rw [e]; rfl
  · have lF := tm_lead hF F1
    have lq := tm_lead hq q0
    have lm := lead_mul lF lq
    have ce := co_of_ev (p := row) (q := mul F q) 0 fun x _ => by rw [h, ev_mul]
    have lr : Lead row (F.length - 1 + (q.length - 1)) _ := ⟨(ce _).trans lm.at_, lm.ne, fun i hi => (ce i).trans (lm.hi i hi)⟩
    have rn : row ≠ [] := fun z => lr.ne (by rw [← lr.at_, z, co_nil])
    have le := (lead_uniq lr (tm_lead hr rn)).1
    have a1 : F.length ≠ 0 := fun z => F1 (List.length_eq_zero_iff.mp z)
    have a2 : q.length ≠ 0 := fun z => q0 (List.length_eq_zero_iff.mp z)
    have a3 : row.length ≠ 0 := fun z => rn (List.length_eq_zero_iff.mp z)
    have em : row.length + 1 - F.length = q.length := by omega
    have eq : qt row F q.length = q := co_ext (qt_len _ _ _) fun i => by
      by_cases hi : i < q.length
      · exact qt_ok F0 h _ i hi
      · rw [co_len (by rw [qt_len]; omega), co_len (by omega)]
    unfold quo
    rw [em, eq, if_pos]
    intro i _
    exact co_of_ev 0 (fun x _ => by rw [ev_mul, h]; grind) i
/-- one look of `cancelled` -/
def look (Y : Nat) (one other : Po) : Option (Po × Po) :=
  match begun (digs (Y : Int) (Int.gcd (ev one (2 * Y)) (ev other (2 * Y))) (Int.gcd (ev one (2 * Y)) (ev other (2 * Y)))) with
  | none => none
  | some F => match quo one F, quo other F with
    | some l, some r => some (l, r)
    | _, _ => none
theorem odd_val {p : Po} (p1 : ev p 0 = 1) (x : Int) : ∃ k, ev p x = 1 + x * k := by
  cases p with
  | nil => exact absurd p1 (by decide)
  | cons a r =>
    have : a = 1 := by have : a + 0 * ev r 0 = 1 := p1; omega
    subst this
    exact ⟨ev r x, rfl⟩
theorem gcd_odd {Y : Nat} {one other : Po} (o1 : ev other 0 = 1) : (Int.gcd (ev one (2 * Y)) (ev other (2 * Y)) : Int) % 2 = 1 := by
  obtain ⟨k, hk⟩ := odd_val o1 (2 * (Y : Int))
  obtain ⟨e, he⟩ := Int.gcd_dvd_right (ev one (2 * (Y : Int))) (ev other (2 * (Y : Int)))
  generalize (Int.gcd (ev one (2 * (Y : Int))) (ev other (2 * (Y : Int))) : Int) = g at *
  rw [hk, Int.mul_assoc] at he
  have h2 : (g * e) % 2 = 1 := by rw [← he]; omega
  rw [Int.mul_emod] at h2
  rcases Int.emod_two_eq g with z | z
  · rw [z] at h2; simp at h2
  · exact z
theorem ev_mod {p : Po} (x : Int) : ∃ k, ev p x = co p 0 + x * k := by
  cases p with
  | nil => exact ⟨0, by show (0 : Int) = 0 + x * 0; omega⟩
  | cons a r => exact ⟨ev r x, rfl⟩
/-- what a look gives is reduced -/
theorem look_sound {Y : Nat} {one other l r : Po} {n : Nat} (hY : 2 ≤ Y) (o1 : ev other 0 = 1) (ht1 : Tm one) (ht2 : Tm other) (dom : Dom one n (2 * Y) ∨ Dom other n (2 * Y)) (h : look Y one other = some (l, r)) : Cop l r ∧ ev r 0 = 1 ∧ ∀ x, ev one x * ev r x = ev other x * ev l x := by
  unfold look at h
  have godd := gcd_odd (Y := Y) (one := one) o1
  have gl := Int.gcd_dvd_left (ev one (2 * (Y : Int))) (ev other (2 * (Y : Int)))
  have gr := Int.gcd_dvd_right (ev one (2 * (Y : Int))) (ev other (2 * (Y : Int)))
  have gm : ∀ {d : Int}, d ∣ ev one (2 * (Y : Int)) → d ∣ ev other (2 * (Y : Int)) → d ∣ (Int.gcd (ev one (2 * (Y : Int))) (ev other (2 * (Y : Int))) : Int) := fun a b => Int.dvd_coe_gcd a b
  generalize Int.gcd (ev one (2 * (Y : Int))) (ev other (2 * (Y : Int))) = D at *
  have hY' : 2 ≤ (Y : Int) := by omega
  have pe := digs_ev hY' D (D : Int) (by omega)
  have pr := digs_rng hY' D (D : Int)
  generalize digs (Y : Int) D (D : Int) = p at *
  have p0 : co p 0 ≠ 0 := fun z => by
    obtain ⟨k, hk⟩ := ev_mod (p := p) (2 * (Y : Int))
    rw [pe, z, Int.mul_assoc] at hk
    omega
  cases hb : begun p with
  | none => rw [hb] at h; cases h
  | some F =>
    rw [hb] at h
    obtain ⟨hF, F0, Fl⟩ := begun_some p0 hb
    have F1 : 1 ≤ F.length := Nat.pos_of_ne_zero fun z => by rw [List.length_eq_zero_iff.mp z, co_nil] at F0; omega
    simp only at h
    cases hq1 : quo one F with
    | none => rw [hq1] at h; cases h
    | some l' =>
      cases hq2 : quo other F with
      | none => rw [hq1, hq2] at h; cases h
      | some r' =>
        rw [hq1, hq2] at h
        simp only [Option.some.injEq, Prod.mk.injEq] at h
        obtain ⟨rfl, rfl⟩ := h
        obtain ⟨e1, _⟩ := quo_some hq1 F1
        obtain ⟨e2, _⟩ := quo_some hq2 F1
        have F0' : ev F 0 = 1 := by rw [← co0_ev]; exact F0
        have r1 : ev r' 0 = 1 := by have := e2 0; rw [o1, F0'] at this; omega
        refine ⟨?_, r1, fun x => by rw [e1, e2]; grind⟩
        intro h m c h0 lh ⟨u, hu⟩ ⟨v, hv⟩
        have pF : ∀ x, ev p x = co p 0 * ev F x := fun x => by
          rw [ev_of_co (q := smul (co p 0) F) (fun i => by rw [co_smul, hF]) x, ev_smul]
        have d1 : ev h (2 * (Y : Int)) * ev F (2 * (Y : Int)) ∣ (D : Int) := gm
          ⟨ev u (2 * (Y : Int)), by rw [e1, hu]; grind⟩ ⟨ev v (2 * (Y : Int)), by rw [e2, hv]; grind⟩
        have D0 : (D : Int) ≠ 0 := by omega
        rw [← pe, pF] at d1 D0
        have Fx : ev F (2 * (Y : Int)) ≠ 0 := fun z => D0 (by rw [z]; simp)
        have d2 : ev h (2 * (Y : Int)) ∣ co p 0 := by
          obtain ⟨w, hw⟩ := d1
          exact ⟨w, canc Fx (by grind)⟩
        have le : (ev h (2 * (Y : Int))).natAbs ≤ (co p 0).natAbs := Nat.le_of_dvd (by omega) (Int.natAbs_dvd_natAbs.mpr d2)
        obtain ⟨k, hk⟩ := odd_val h0 (2 * (Y : Int))
        have hx1 : ev h (2 * (Y : Int)) = 1 := by
          have := pr 0
          rcases Int.lt_trichotomy k 0 with z | z | z
          · have h3 : 2 * (Y : Int) * k ≤ -(2 * (Y : Int)) := by
              have := Int.mul_le_mul_of_nonneg_left (show 1 ≤ -k by omega) (show 0 ≤ 2 * (Y : Int) by omega)
              rw [Int.mul_neg] at this; omega
            omega
          · subst z; rw [hk]; omega
          · have h3 : 2 * (Y : Int) ≤ 2 * (Y : Int) * k := by
              have := Int.mul_le_mul_of_nonneg_left (show 1 ≤ k by omega) (show 0 ≤ 2 * (Y : Int) by omega)
              omega
            omega
        have cx : ((2 * Y : Nat) : Int) = 2 * (Y : Int) := by omega
        rcases dom with d | d
        · exact no_factor (X := 2 * Y) (k := mul F u) d (fun x => by rw [ev_mul, e1, hu]; grind) (by rw [co0_ev]; exact h0) lh (by rw [cx]; exact hx1)
        · exact no_factor (X := 2 * Y) (k := mul F v) d (fun x => by rw [ev_mul, e2, hv]; grind) (by rw [co0_ev]; exact h0) lh (by rw [cx]; exact hx1)
end SerM
namespace SerM
/-! ### a power beyond the roots -/
theorem sn_le : ∀ {n : Nat} {f g : Nat → Nat}, (∀ j, j < n → f j ≤ g j) → SN n f ≤ SN n g
  | 0, _, _, _ => Nat.le_refl _
  | n + 1, f, g, h => Nat.add_le_add (sn_le fun j hj => h j (by omega)) (h n (by omega))
theorem sn_geo {W X : Nat} (hX : X = 4 * W) : ∀ n, 2 * SN n (fun j => W ^ (n - j) * X ^ j) ≤ X ^ n
  | 0 => by simp [SN]
  | n + 1 => by
    have ih := sn_geo hX n
    have e : SN n (fun j => W ^ (n + 1 - j) * X ^ j) = SN n (fun j => W ^ (n - j) * X ^ j) * W := by
      rw [← SN_mul]
      have : ∀ (m : Nat), m ≤ n → SN m (fun j => W ^ (n + 1 - j) * X ^ j) = SN m (fun j => W ^ (n - j) * X ^ j * W) := fun m => by
        induction m with
        | zero => intro _; rfl
        | succ m im =>
          intro hm
          show SN m _ + W ^ (n + 1 - m) * X ^ m = SN m _ + W ^ (n - m) * X ^ m * W
          rw [im (by omega), show n + 1 - m = (n - m) + 1 by omega, Nat.pow_succ]
          congr 1
          rw [Nat.mul_assoc, Nat.mul_assoc, Nat.mul_comm W]
      exact this n (Nat.le_refl n)
    show 2 * (SN n (fun j => W ^ (n + 1 - j) * X ^ j) + W ^ (n + 1 - n) * X ^ n) ≤ X ^ (n + 1)
    rw [e, show n + 1 - n = 1 by omega, Nat.pow_one, Nat.pow_succ]
    have h1 := Nat.mul_le_mul_right W ih
    have h2 : X ^ n * X = 4 * (X ^ n * W) := by
      have : X ^ n * X = X ^ n * (4 * W) := by rw [← hX]
      rw [this, Nat.mul_left_comm]
    rw [h2, Nat.mul_comm W (X ^ n)]
    rw [Nat.mul_assoc] at h1
    omega
theorem dom_of {f : Po} {n W X : Nat} (hX : X = 4 * W) (hW : 0 < W) (ne : co f n ≠ 0) (hi : ∀ i, n < i → co f i = 0) (hj : ∀ j, j < n → (co f j).natAbs * 2 ^ (n - j) ≤ (co f n).natAbs * W ^ (n - j)) : Dom f n X := by
  refine ⟨by omega, ne, hi, ?_⟩
  have h1 : SN n (fun j => (co f j).natAbs * X ^ j * 2 ^ (n - j)) ≤ SN n (fun j => W ^ (n - j) * X ^ j * (co f n).natAbs) := sn_le fun j hl => by
    have := Nat.mul_le_mul_right (X ^ j) (hj j hl)
    calc (co f j).natAbs * X ^ j * 2 ^ (n - j) = (co f j).natAbs * 2 ^ (n - j) * X ^ j := by rw [Nat.mul_right_comm]
      _ ≤ (co f n).natAbs * W ^ (n - j) * X ^ j := this
      _ = W ^ (n - j) * X ^ j * (co f n).natAbs := by rw [Nat.mul_assoc, Nat.mul_comm]
  rw [SN_mul] at h1
  have h2 := Nat.mul_le_mul_right (co f n).natAbs (sn_geo hX n)
  rw [Nat.mul_comm (co f n).natAbs (X ^ n)]
  rw [Nat.mul_assoc] at h2
  omega
/-! ### a bound for the coefficients by values at places -/
def sd (y : Int) : Po → Po
  | [] => []
  | _ :: r => add r (smul y (sd y r))
theorem ev_sd (y : Int) : ∀ (g : Po) (x : Int), ev g x = ev g y + (x - y) * ev (sd y g) x
  | [], x => by show (0 : Int) = 0 + (x - y) * 0; omega
  | a :: r, x => by
    show a + x * ev r x = a + y * ev r y + (x - y) * ev (add r (smul y (sd y r))) x
    rw [ev_add, ev_smul]
    have := ev_sd y r x
    grind
theorem add_len : ∀ (p q : Po), q.length ≤ p.length → (add p q).length = p.length
  | p, [], _ => by cases p <;> rfl
  | [], b :: q, h => by simp at h
  | a :: p, b :: q, h => by
    show (add p q).length + 1 = p.length + 1
    rw [add_len p q (by simpa using h)]
theorem sd_len (y : Int) : ∀ (g : Po), (sd y g).length = g.length - 1
  | [] => rfl
  | a :: r => by
    show (add r (smul y (sd y r))).length = _
    have := sd_len y r
    rw [add_len _ _ (by unfold smul; rw [List.length_map, this]; omega)]; rfl
theorem co_sd (y : Int) (g : Po) (i : Nat) : co g i = (if i = 0 then ev g y else 0) + (if i = 0 then 0 else co (sd y g) (i - 1)) - y * co (sd y g) i := by
  have e : ∀ x, ev g x = ev (add [ev g y] (add (0 :: sd y g) (smul (-y) (sd y g)))) x := fun x => by
    rw [ev_add, ev_add, ev_smul, ev_sd y g x]
    show _ = (ev g y + x * 0) + ((0 + x * ev (sd y g) x) + _)
    grind
  rw [co_of_ev 0 (fun x _ => e x), co_add, co_add, co_smul]
  cases i with
  | zero => show ev g y + (0 + -y * co (sd y g) 0) = ev g y + 0 - y * co (sd y g) 0; grind
  | succ i => show co [] i + (co (sd y g) i + -y * co (sd y g) (i + 1)) = 0 + co (sd y g) i - y * co (sd y g) (i + 1); rw [co_nil]; grind
theorem interp : ∀ (ys : List Int) (g : Po) (K L : Nat), g.length ≤ ys.length → ys.Nodup → (∀ y ∈ ys, y.natAbs ≤ L) → (∀ y ∈ ys, (ev g y).natAbs ≤ K) → ∀ i, (co g i).natAbs ≤ K * (3 * (1 + L)) ^ ys.length
  | [], g, K, L, hl, _, _, _, i => by
    rw [co_len (by have : g.length = 0 := Nat.le_zero.mp hl; omega)]; exact Nat.zero_le _
  | y :: ys, g, K, L, hl, nd, hL, hK, i => by
    obtain ⟨ny, nd'⟩ := List.nodup_cons.mp nd
    have hL' : ∀ z ∈ ys, z.natAbs ≤ L := fun z hz => hL z (List.mem_cons_of_mem _ hz)
    have hy := hL y List.mem_cons_self
    have ky := hK y List.mem_cons_self
    have ih := interp ys (sd y g) (2 * K) L (by rw [sd_len]; simp at hl; omega) nd' hL' fun z hz => by
      have kz := hK z (List.mem_cons_of_mem _ hz)
      have zy : z - y ≠ 0 := fun e => ny (by rw [show y = z by omega]; exact hz)
      have e := ev_sd y g z
      have h1 : ((z - y) * ev (sd y g) z).natAbs ≤ 2 * K := by omega
      rw [Int.natAbs_mul] at h1
      have := Nat.le_mul_of_pos_left (ev (sd y g) z).natAbs (show 0 < (z - y).natAbs by omega)
      omega
    have e := co_sd y g i
    have h0 := ih i
    have h1 := ih (i - 1)
    generalize hP : (3 * (1 + L)) ^ ys.length = P at *
    have P1 : 1 ≤ P := by rw [← hP]; exact Nat.pow_pos (by omega)
    rw [List.length_cons, Nat.pow_succ, hP]
    have h2 : (y * co (sd y g) i).natAbs ≤ L * (2 * K * P) := by
      rw [Int.natAbs_mul]; exact Nat.mul_le_mul hy h0
    have h3 : (co g i).natAbs ≤ K + 2 * K * P + L * (2 * K * P) := by
      rw [e]
      by_cases z : i = 0
      · simp only [z, if_true] at *; omega
      · simp only [z, if_false] at *; omega
    have h4 : K ≤ K * P := Nat.le_mul_of_pos_right K P1
    have h5 : K * (P * (3 * (1 + L))) = 3 * (K * P) + 3 * (L * (K * P)) := by grind
    have h6 : L * (2 * K * P) = 2 * (L * (K * P)) := by grind
    rw [h5]
    rw [Nat.mul_assoc] at h3
    rw [← Nat.mul_assoc 2 K P, h6] at h3
    rw [Nat.mul_assoc] at h3
    omega
end SerM
namespace SerM
/-! ### a factor's coefficients -/
theorem ev_bd {A L : Nat} {x : Int} (hx : x.natAbs ≤ L) : ∀ (p : Po), (∀ i, (co p i).natAbs ≤ A) → (ev p x).natAbs ≤ A * (1 + L) ^ p.length
  | [], _ => Nat.zero_le _
  | a :: r, h => by
    have ih := ev_bd hx r fun i => h (i + 1)
    have h0 : a.natAbs ≤ A := h 0
    show (a + x * ev r x).natAbs ≤ A * (1 + L) ^ (r.length + 1)
    have h1 : (x * ev r x).natAbs ≤ L * (A * (1 + L) ^ r.length) := by rw [Int.natAbs_mul]; exact Nat.mul_le_mul hx ih
    have h2 : A ≤ A * (1 + L) ^ r.length := Nat.le_mul_of_pos_right _ (Nat.pow_pos (by omega))
    have h3 : A * (1 + L) ^ (r.length + 1) = A * (1 + L) ^ r.length + L * (A * (1 + L) ^ r.length) := by rw [Nat.pow_succ]; grind
    omega
theorem filter_both {α : Type} (q : α → Bool) : ∀ l : List α, (l.filter q).length + (l.filter fun a => !q a).length = l.length
  | [] => rfl
  | a :: l => by
    have := filter_both q l
    cases h : q a <;> simp [h] <;> omega
theorem places {f : Po} {m : Nat} (hf : NZ f) (hm : f.length ≤ m) : ∃ ys : List Int, ys.length = m ∧ ys.Nodup ∧ (∀ y ∈ ys, y.natAbs ≤ m) ∧ ∀ y ∈ ys, ev f y ≠ 0 := by
  let pts : List Int := (List.range (2 * m)).map fun (i : Nat) => (i : Int) - (m : Int)
  have pl : pts.length = 2 * m := by simp [pts]
  have pn : pts.Nodup := by
    refine List.Pairwise.map _ (fun a b h => ?_) (List.nodup_range (n := 2 * m))
    omega
  have pb : ∀ y ∈ pts, y.natAbs ≤ m := fun y hy => by
    obtain ⟨i, hi, rfl⟩ := List.mem_map.mp hy
    have := List.mem_range.mp hi
    omega
  have hb := filter_both (fun y => decide (ev f y = 0)) pts
  have few : (pts.filter fun y => decide (ev f y = 0)).length < m := Nat.lt_of_not_le fun z => by
    obtain ⟨i, hi⟩ := hf
    have := interp (pts.filter fun y => decide (ev f y = 0)) f 0 m (by omega) (pn.filter _) (fun y hy => pb y (List.mem_filter.mp hy).1) (fun y hy => by
      have : ev f y = 0 := by simpa using (List.mem_filter.mp hy).2
      rw [this]; simp) i
    omega
  refine ⟨(pts.filter fun y => !decide (ev f y = 0)).take m, by rw [List.length_take]; omega, (pn.filter _).sublist (List.take_sublist _ _), fun y hy => pb y (List.mem_filter.mp (List.mem_of_mem_take hy)).1, fun y hy => ?_⟩
  simpa using (List.mem_filter.mp (List.mem_of_mem_take hy)).2
def fb (A m : Nat) : Nat := A * (1 + m) ^ m * (3 * (1 + m)) ^ m
theorem fac_bd {f g : Po} {A m : Nat} (hf : NZ f) (hm : f.length ≤ m) (gm : g.length ≤ m) (hA : ∀ i, (co f i).natAbs ≤ A) (hd : Dv g f) (i : Nat) : (co g i).natAbs ≤ fb A m := by
  obtain ⟨ys, yl, yn, yb, y0⟩ := places hf hm
  obtain ⟨w, hw⟩ := hd
  have := interp ys g (A * (1 + m) ^ m) m (by omega) yn yb (fun y hy => by
    have h1 := ev_bd (yb y hy) f hA
    have h2 : (ev g y).natAbs ≤ (ev f y).natAbs := by
      have hne := y0 y hy
      rw [hw] at hne ⊢
      rw [Int.natAbs_mul]
      exact Nat.le_mul_of_pos_right _ (Nat.pos_of_ne_zero fun z => hne (by rw [Int.natAbs_eq_zero.mp z]; simp))
    have h3 : A * (1 + m) ^ f.length ≤ A * (1 + m) ^ m := Nat.mul_le_mul_left _ (Nat.pow_le_pow_right (by omega) hm)
    omega) i
  rw [yl] at this
  exact this
/-! ### more things than places -/
theorem pig : ∀ (K : Nat) (f : Nat → Nat) (M : Nat), (∀ i, i < M → f i < K) → K < M → ∃ i j, i < j ∧ j < M ∧ f i = f j
  | 0, f, M, h, hM => absurd (h 0 (by omega)) (by omega)
  | K + 1, f, M, h, hM => by
    by_cases z : ∃ i, i < M - 1 ∧ f i = f (M - 1)
    · obtain ⟨i, a, b⟩ := z
      exact ⟨i, M - 1, a, by omega, b⟩
    · have nz : ∀ i, i < M - 1 → f i ≠ f (M - 1) := fun i a b => z ⟨i, a, b⟩
      have hv := h (M - 1) (by omega)
      obtain ⟨i, j, a, b, c⟩ := pig K (fun i => if f i = K then f (M - 1) else f i) (M - 1) (fun i hi => by
        have h1 := h i (by omega)
        have h2 := nz i hi
        show (if f i = K then f (M - 1) else f i) < K
        split <;> omega) (by omega)
      have n1 := nz i (by omega)
      have n2 := nz j b
      refine ⟨i, j, a, by omega, ?_⟩
      split at c <;> split at c <;> omega
def code (Q : Nat) : Nat → (Nat → Nat) → Nat
  | 0, _ => 0
  | n + 1, v => code Q n v + v n * Q ^ n
theorem code_lt {Q : Nat} {v : Nat → Nat} : ∀ n, (∀ i, i < n → v i < Q) → code Q n v < Q ^ n
  | 0, _ => by simp [code]
  | n + 1, h => by
    have ih := code_lt n fun i hi => h i (by omega)
    have hn := h n (by omega)
    show code Q n v + v n * Q ^ n < Q ^ (n + 1)
    have := Nat.mul_le_mul_right (Q ^ n) (show v n + 1 ≤ Q by omega)
    rw [Nat.pow_succ, Nat.mul_comm (Q ^ n) Q]
    rw [Nat.add_mul] at this
    omega
theorem code_inj {Q : Nat} {v w : Nat → Nat} : ∀ n, (∀ i, i < n → v i < Q) → (∀ i, i < n → w i < Q) → code Q n v = code Q n w → ∀ i, i < n → v i = w i
  | 0, _, _, _, i, hi => by omega
  | n + 1, hv, hw, e, i, hi => by
    have a := code_lt n fun i hi => hv i (by omega)
    have b := code_lt n fun i hi => hw i (by omega)
    have e' : code Q n v + v n * Q ^ n = code Q n w + w n * Q ^ n := e
    have ev : v n = w n := by
      rcases Nat.lt_trichotomy (v n) (w n) with z | z | z
      · have := Nat.mul_le_mul_right (Q ^ n) (show v n + 1 ≤ w n by omega)
        rw [Nat.add_mul] at this; omega
      · exact z
      · have := Nat.mul_le_mul_right (Q ^ n) (show w n + 1 ≤ v n by omega)
        rw [Nat.add_mul] at this; omega
    by_cases q : i = n
    · subst q; exact ev
    · rw [ev] at e'
      exact code_inj n (fun i hi => hv i (by omega)) (fun i hi => hw i (by omega)) (by omega) i (by omega)
/-- two numbers of the same digits -/
theorem digit_inj {B : Nat} (hB : 0 < B) : ∀ (n a b : Nat), a < B ^ n → b < B ^ n → (∀ i, i < n → a / B ^ i % B = b / B ^ i % B) → a = b
  | 0, a, b, ha, hb, _ => by simp at ha hb; omega
  | n + 1, a, b, ha, hb, h => by
    have h0 := h 0 (by omega)
    simp at h0
    have e := digit_inj hB n (a / B) (b / B) (Nat.div_lt_of_lt_mul (by rw [Nat.mul_comm, ← Nat.pow_succ]; exact ha)) (Nat.div_lt_of_lt_mul (by rw [Nat.mul_comm, ← Nat.pow_succ]; exact hb)) fun i hi => by
      have := h (i + 1) (by omega)
      rw [Nat.pow_succ, Nat.mul_comm, ← Nat.div_div_eq_div_mul, ← Nat.div_div_eq_div_mul] at this
      exact this
    rw [← Nat.div_add_mod a B, ← Nat.div_add_mod b B, e, h0]
theorem mul_bd {P Q : Nat} {q : Po} (hq : ∀ i, (co q i).natAbs ≤ Q) : ∀ (p : Po), (∀ i, (co p i).natAbs ≤ P) → ∀ i, (co (mul p q) i).natAbs ≤ p.length * (P * Q)
  | [], _, i => by rw [show mul [] q = [] from rfl, co_nil]; simp
  | a :: r, h, i => by
    have ih := mul_bd hq r fun i => h (i + 1)
    show (co (add (smul a q) (0 :: mul r q)) i).natAbs ≤ (r.length + 1) * (P * Q)
    rw [co_add, co_smul, Nat.add_mul]
    have h1 : (a * co q i).natAbs ≤ P * Q := by rw [Int.natAbs_mul]; exact Nat.mul_le_mul (h 0) (hq i)
    cases i with
    | zero => rw [co_zero]; omega
    | succ i => rw [co_succ]; have := ih i; omega
end SerM
namespace SerM
/-- the digits of k, from the place i on, n of them, as a polynomial -/
def dgp (B k i n : Nat) : Po := (List.range n).map fun j => ((k / B ^ (i + j) % B : Nat) : Int)
theorem dgp_len (B k i n : Nat) : (dgp B k i n).length = n := by simp [dgp]
theorem dgp_co {B k i n j : Nat} (h : j < n) : co (dgp B k i n) j = ((k / B ^ (i + j) % B : Nat) : Int) := by
  unfold co dgp
  rw [List.getD_eq_getElem?_getD, List.getElem?_map, List.getElem?_range h]; rfl
theorem dgp_bd {B k i n : Nat} (hB : 0 < B) (j : Nat) : (co (dgp B k i n) j).natAbs ≤ B := by
  by_cases h : j < n
  · rw [dgp_co h]
    have := Nat.mod_lt (k / B ^ (i + j)) hB
    omega
  · rw [co_len (by rw [dgp_len]; omega)]; exact Nat.zero_le _
theorem dv_of_prod {a b s t : Po} (b1 : ev b 0 = 1) (hc : Cop a b) (h : ∀ x, ev s x * ev a x = ev b x * ev t x) : Dv b s := by
  obtain ⟨σ, τ, r, r0, hr⟩ := bez b1 hc
  exact dv_whole r0 b1 (w := add (mul σ t) (mul τ s)) fun x => by
    rw [ev_add, ev_mul, ev_mul, ← hr x]
    have := h x
    grind
theorem dv_short {b s : Po} {db : Nat} {c : Int} (lb : Lead b db c) (sl : s.length ≤ db) (h : Dv b s) : ∀ i, co s i = 0 := by
  obtain ⟨w, hw⟩ := h
  intro i
  apply Classical.byContradiction
  intro ne
  have hs : NZ s := ⟨i, ne⟩
  have hwz : NZ w := by
    apply Classical.byContradiction
    intro z
    have : ∀ i, co w i = 0 := fun i => Classical.byContradiction fun k => z ⟨i, k⟩
    exact ne (by rw [co_of_ev (q := []) 0 (fun x _ => by rw [hw, zero_ev this]; show _ * (0 : Int) = 0; omega) i, co_nil])
  obtain ⟨n, d, lw, _⟩ := lead_of hwz
  obtain ⟨m, e, ls, hm⟩ := lead_of hs
  have lm := lead_mul lb lw
  have ce := co_of_ev (p := s) (q := mul b w) 0 fun x _ => by rw [hw, ev_mul]
  have := (lead_uniq ls ⟨(ce _).trans lm.at_, lm.ne, fun i hi => (ce i).trans (lm.hi i hi)⟩).1
  omega
/-- a small number that both values must share -/
theorem small_r {a b : Po} {da db A : Nat} {c : Int} (b1 : ev b 0 = 1) (hc : Cop a b) (la : a.length ≤ da + 1) (lb : Lead b db c) (lb' : b.length ≤ db + 1) (hA : 1 ≤ A) (ha : ∀ i, (co a i).natAbs ≤ A) (hb : ∀ i, (co b i).natAbs ≤ A) :
    ∃ (s t : Po) (r : Int), r ≠ 0 ∧ (∀ x, ev s x * ev a x + ev t x * ev b x = r) ∧ r.natAbs ≤ (2 * (da + db) * A + 1) ^ (da + db + 1) := by
  generalize hN : da + db = N
  by_cases N0 : N = 0
  · have : db = 0 := by omega
    subst this
    refine ⟨[], [1], 1, by decide, fun x => ?_, ?_⟩
    · have e := lead0 lb
      have c1 : c = 1 := by rw [← e 0]; exact b1
      rw [e, c1]
      show (0 : Int) * _ + (1 + x * 0) * 1 = 1
      omega
    · subst N0; simp
  generalize hT : 2 * N * A + 1 = T
  have T2 : 2 ≤ T := by have := Nat.mul_le_mul (show 1 ≤ N by omega) hA; rw [← hT, Nat.mul_assoc]; omega
  have hB : 0 < T ^ N := Nat.pow_pos (by omega)
  generalize hBe : T ^ N = B at hB
  let cb : Nat → Po := fun k => add (mul (dgp B k 0 db) a) (mul (dgp B k db da) b)
  have cbd : ∀ k i, (co (cb k) i).natAbs ≤ N * (B * A) := fun k i => by
    have h1 := mul_bd ha (dgp B k 0 db) (dgp_bd hB) i
    have h2 := mul_bd hb (dgp B k db da) (dgp_bd hB) i
    rw [dgp_len] at h1 h2
    show (co (add _ _) i).natAbs ≤ _
    rw [co_add, ← hN, Nat.add_mul]
    omega
  have czero : ∀ k i, N ≤ i → co (cb k) i = 0 := fun k i hi => by
    show co (add _ _) i = 0
    rw [co_add, mul_len0 _ _ _ (by rw [dgp_len]; omega), mul_len0 _ _ _ (by rw [dgp_len]; omega)]; rfl
  generalize hZ : N * (B * A) = Z at cbd
  have Zb : 2 * Z + 1 ≤ T * B := by
    have e : T * B = 2 * Z + B := by rw [← hT, ← hZ]; grind
    omega
  let v : Nat → Nat → Nat := fun k i => (co (cb k) (i + 1) + Z).toNat
  have vlt : ∀ k i, v k i < 2 * Z + 1 := fun k i => by
    have := cbd k (i + 1)
    show (co (cb k) (i + 1) + Z).toNat < _
    omega
  have room : (2 * Z + 1) ^ (N - 1) < B ^ N := by
    have h1 : (2 * Z + 1) ^ (N - 1) ≤ (T * B) ^ (N - 1) := Nat.pow_le_pow_left Zb _
    rw [Nat.mul_pow] at h1
    have h2 : T ^ (N - 1) < B := by rw [← hBe]; exact Nat.pow_lt_pow_right (by omega) (by omega)
    have h3 := Nat.mul_lt_mul_of_pos_right h2 (show 0 < B ^ (N - 1) from Nat.pow_pos hB)
    have h4 : B * B ^ (N - 1) = B ^ N := by
      rw [Nat.mul_comm, ← Nat.pow_succ]; congr 1; omega
    omega
  obtain ⟨i, j, ij, jM, e⟩ := pig _ (fun k => code (2 * Z + 1) (N - 1) (v k)) (B ^ N) (fun k _ => code_lt _ fun l _ => vlt k l) room
  have hv := code_inj _ (fun l _ => vlt i l) (fun l _ => vlt j l) e
  have hco : ∀ l, 1 ≤ l → co (cb i) l = co (cb j) l := fun l hl => by
    by_cases z : N ≤ l
    · rw [czero _ _ z, czero _ _ z]
    · have h1 := hv (l - 1) (by omega)
      have b1 := cbd i l
      have b2 := cbd j l
      have h2 : (co (cb i) (l - 1 + 1) + Z).toNat = (co (cb j) (l - 1 + 1) + Z).toNat := h1
      rw [show l - 1 + 1 = l by omega] at h2
      omega
  have hs : ∀ (p q : Po) l, co (add p (smul (-1) q)) l = co p l - co q l := fun p q l => by rw [co_add, co_smul]; omega
  have hes : ∀ (p q : Po) x, ev (add p (smul (-1) q)) x = ev p x - ev q x := fun p q x => by rw [ev_add, ev_smul]; omega
  have hcb : ∀ k x, ev (cb k) x = ev (dgp B k 0 db) x * ev a x + ev (dgp B k db da) x * ev b x := fun k x => by
    show ev (add _ _) x = _
    rw [ev_add, ev_mul, ev_mul]
  have hr : ∀ x, ev (add (dgp B i 0 db) (smul (-1) (dgp B j 0 db))) x * ev a x + ev (add (dgp B i db da) (smul (-1) (dgp B j db da))) x * ev b x = co (cb i) 0 - co (cb j) 0 := fun x => by
    rw [hes, hes]
    have h1 : ev (add (cb i) (smul (-1) (cb j))) x = ev [co (cb i) 0 - co (cb j) 0] x := ev_of_co (fun l => by
      rw [hs]
      cases l with
      | zero => rfl
      | succ l => rw [hco (l + 1) (by omega)]; show _ = co [] l; rw [co_nil]; omega) x
    rw [hes, hcb, hcb] at h1
    have h2 : ev [co (cb i) 0 - co (cb j) 0] x = co (cb i) 0 - co (cb j) 0 := by show _ + x * 0 = _; omega
    rw [h2] at h1
    grind
  refine ⟨_, _, _, fun r0 => ?_, hr, ?_⟩
  · rw [r0] at hr
    have slen : (add (dgp B i 0 db) (smul (-1) (dgp B j 0 db))).length ≤ db := by
      rw [add_len _ _ (by unfold smul; rw [List.length_map, dgp_len, dgp_len]; exact Nat.le_refl _), dgp_len]; exact Nat.le_refl _
    have d1 : Dv b (add (dgp B i 0 db) (smul (-1) (dgp B j 0 db))) := dv_of_prod (t := smul (-1) (add (dgp B i db da) (smul (-1) (dgp B j db da)))) b1 hc fun x => by
      have := hr x
      rw [ev_smul]
      grind
    have s0 := dv_short lb slen d1
    have t0 : ∀ l, co (add (dgp B i db da) (smul (-1) (dgp B j db da))) l = 0 := fun l => by
      have h1 : ∀ x, ev b x * ev (add (dgp B i db da) (smul (-1) (dgp B j db da))) x = ev b x * ev [] x := fun x => by
        have := hr x
        rw [zero_ev s0] at this
        show _ = _ * (0 : Int)
        grind
      rw [co_of_ev 0 (fun x _ => ev_cancel (nz_of1 b1) h1 x) l, co_nil]
    have : i = j := digit_inj hB N i j (by omega) jM fun l hl => by
      by_cases z : l < db
      · have := s0 l
        rw [hs, dgp_co z, dgp_co z] at this
        simp only [Nat.zero_add] at this
        omega
      · have := t0 (l - db)
        rw [hs, dgp_co (by omega), dgp_co (by omega), show db + (l - db) = l by omega] at this
        omega
    omega
  · have h1 := cbd i 0
    have h2 := cbd j 0
    rw [Nat.pow_succ, hBe, Nat.mul_comm B T]
    omega
end SerM
namespace SerM
theorem tm_smul {c : Int} (c0 : c ≠ 0) {g : Po} (h : Tm g) : Tm (smul c g) := fun ne => by
  have gn : g ≠ [] := fun z => ne (by rw [z]; rfl)
  have : (smul c g).getLast ne = c * g.getLast gn := List.getLast_map (f := fun x => c * x) (l := g) ne
  rw [this]
  exact fun z => (Int.mul_eq_zero.mp z).elim c0 (h gn)
/-- a great power is enough -/
theorem look_ends {Y R G : Nat} {one other g a b : Po} (hY : 2 ≤ Y) (tg : Tm g) (ta : Tm a) (tb : Tm b) (t1 : Tm one) (t2 : Tm other) (g1 : ev g 0 = 1) (b1 : ev b 0 = 1) (ho : ∀ x, ev one x = ev g x * ev a x) (hp : ∀ x, ev other x = ev g x * ev b x) (hG : ∀ i, (co g i).natAbs ≤ G)
    (hR : ∀ E : Nat, (E : Int) ∣ ev a (2 * Y) → (E : Int) ∣ ev b (2 * Y) → E ≤ R) (hRG : R * G < Y) : look Y one other = some (a, b) := by
  have hY' : 2 ≤ (Y : Int) := by omega
  have eD : Int.gcd (ev one (2 * Y)) (ev other (2 * Y)) = (ev g (2 * Y)).natAbs * Int.gcd (ev a (2 * Y)) (ev b (2 * Y)) := by
    rw [ho, hp, Int.gcd_mul_left]
  have hE := hR _ (Int.gcd_dvd_left (ev a (2 * Y)) (ev b (2 * Y))) (Int.gcd_dvd_right (ev a (2 * Y)) (ev b (2 * Y)))
  have eodd := gcd_odd (Y := Y) (one := a) b1
  unfold look
  generalize Int.gcd (ev a (2 * (Y : Int))) (ev b (2 * (Y : Int))) = E at *
  rw [eD]
  obtain ⟨σ, hσ, eσ⟩ : ∃ σ : Int, (σ = 1 ∨ σ = -1) ∧ ((ev g (2 * (Y : Int))).natAbs : Int) = σ * ev g (2 * (Y : Int)) := by
    rcases Int.natAbs_eq (ev g (2 * (Y : Int))) with z | z
    · exact ⟨1, .inl rfl, by omega⟩
    · exact ⟨-1, .inr rfl, by omega⟩
  have c0 : σ * (E : Int) ≠ 0 := by rcases hσ with rfl | rfl <;> omega
  have cast : (((ev g (2 * (Y : Int))).natAbs * E : Nat) : Int) = ev (smul (σ * E) g) (2 * (Y : Int)) := by
    rw [ev_smul, Int.natCast_mul, eσ]; grind
  have rng : ∀ i, -(Y : Int) < co (smul (σ * E) g) i ∧ co (smul (σ * E) g) i ≤ Y := fun i => by
    rw [co_smul]
    have h1 : (σ * (E : Int) * co g i).natAbs ≤ R * G := by
      rw [Int.natAbs_mul]
      refine Nat.mul_le_mul ?_ (hG i)
      rcases hσ with rfl | rfl <;> omega
    omega
  have dgs : digs (Y : Int) ((ev g (2 * (Y : Int))).natAbs * E) (((ev g (2 * (Y : Int))).natAbs * E : Nat) : Int) = smul (σ * E) g := by
    refine tm_ext (digs_tm hY' _ _ (by omega)) (tm_smul c0 tg) fun i => ?_
    have := digs_uniq hY' (smul (σ * E) g) ((ev g (2 * (Y : Int))).natAbs * E) rng (by rw [← cast]; omega) i
    rw [← cast] at this
    exact this
  have g0 : co g 0 = 1 := by rw [co0_ev]; exact g1
  rw [dgs, begun_ok (F := g) (c := σ * E) (by simp [smul]) c0 g0 fun i => co_smul _ _ _]
  simp only
  rw [quo_ok t1 tg g0 ta ho, quo_ok t2 tg g0 tb hp]
/-- the reduced form of a top and a bottom -/
structure Red (top bottom u v : Po) : Prop where
  tu : Tm u
  tv : Tm v
  v1 : ev v 0 = 1
  cop : Cop u v
  eq : ∀ x, ev u x * ev bottom x = ev top x * ev v x
theorem red_uniq {top bottom u v u' v' : Po} (b1 : ev bottom 0 = 1) (h : Red top bottom u v) (k : Red top bottom u' v') : u = u' ∧ v = v' := by
  have he : ∀ x, ev u x * ev v' x = ev u' x * ev v x := by
    have : ∀ x, ev bottom x * ev (mul u v') x = ev bottom x * ev (mul u' v) x := fun x => by
      rw [ev_mul, ev_mul]
      have h1 := h.eq x
      have h2 := k.eq x
      grind
    intro x
    have := ev_cancel (nz_of1 b1) this x
    rwa [ev_mul, ev_mul] at this
  obtain ⟨e1, e2⟩ := cop_uniq h.cop k.cop h.v1 k.v1 he
  exact ⟨tm_ext h.tu k.tu fun i => co_of_ev 0 (fun x _ => e1 x) i, tm_ext h.tv k.tv fun i => co_of_ev 0 (fun x _ => e2 x) i⟩
theorem dv_z : ∀ (k : Nat) {h l : Po}, ev h 0 = 1 → Dv h (zp k l) → Dv h l
  | 0, h, l, _, d => d
  | k + 1, h, l, h0, ⟨w, hw⟩ => by
    apply dv_z k h0
    have w0 : ev w 0 = 0 := by
      have := hw 0
      rw [h0] at this
      have e : ev (zp (k + 1) l) 0 = 0 := by show 0 + 0 * ev (zp k l) 0 = (0 : Int); omega
      omega
    have hwx : ∀ x, ev w x = x * ev w.tail x := fun x => by
      cases w with
      | nil => show (0 : Int) = x * 0; omega
      | cons c w =>
        have : c = 0 := by have : c + 0 * ev w 0 = 0 := w0; omega
        subst this
        show 0 + x * ev w x = x * ev w x
        omega
    have e1 : ∀ x, ev ([0, 1] : Po) x = x := fun x => by show 0 + x * (1 + x * 0) = x; grind
    refine ⟨w.tail, fun x => ?_⟩
    rw [← ev_mul]
    refine ev_cancel (p := [0, 1]) ⟨1, by decide⟩ (fun x => ?_) x
    have h1 := hw x
    have h2 : ev (zp (k + 1) l) x = x * ev (zp k l) x := by show 0 + x * ev (zp k l) x = _; omega
    rw [e1, ev_mul, ← h2, h1, hwx x]
    grind
theorem cop_z {k : Nat} {l r : Po} (h : Cop l r) : Cop (zp k l) r := fun f m c f0 lf d1 d2 => h f m c f0 lf (dv_z k f0 d1) d2
theorem cop_one {p : Po} : Cop p [1] := fun f m c f0 lf _ ⟨w, hw⟩ => by
  have e1 : ∀ x, ev ([1] : Po) x = 1 := fun x => by show 1 + x * 0 = (1 : Int); omega
  have w0 : ev w 0 = 1 := by have := hw 0; rw [f0, e1] at this; omega
  obtain ⟨n, d, lw, _⟩ := lead_of (nz_of1 w0)
  have lm := lead_mul lf lw
  have ce := co_of_ev (p := [1]) (q := mul f w) 0 fun x _ => by rw [hw, ev_mul]
  have l1 : Lead [1] 0 1 := ⟨rfl, by decide, fun i hi => by
    cases i with
    | zero => omega
    | succ i => exact co_nil i⟩
  have := (lead_uniq l1 ⟨(ce _).trans lm.at_, lm.ne, fun i hi => (ce i).trans (lm.hi i hi)⟩).1
  omega
theorem cop_const {a : Int} (a0 : a ≠ 0) {r : Po} : Cop [a] r := fun f m c f0 lf ⟨w, hw⟩ _ => by
  have e1 : ∀ x, ev ([a] : Po) x = a := fun x => by show a + x * 0 = a; omega
  have w0 : NZ w := by
    apply Classical.byContradiction
    intro z
    have : ∀ i, co w i = 0 := fun i => Classical.byContradiction fun k => z ⟨i, k⟩
    have h := hw 0
    rw [e1, zero_ev this] at h
    omega
  obtain ⟨n, d, lw, _⟩ := lead_of w0
  have lm := lead_mul lf lw
  have ce := co_of_ev (p := [a]) (q := mul f w) 0 fun x _ => by rw [hw, ev_mul]
  have l1 : Lead [a] 0 a := ⟨rfl, a0, fun i hi => by
    cases i with
    | zero => omega
    | succ i => exact co_nil i⟩
  have := (lead_uniq l1 ⟨(ce _).trans lm.at_, lm.ne, fun i hi => (ce i).trans (lm.hi i hi)⟩).1
  omega
/-- the branches of `reduced` -/
theorem red_nil {top bottom : Po} (h : trim top = []) : Red top bottom [] [1] :=
  ⟨fun z => absurd rfl z, fun _ => (by show (1 : Int) ≠ 0; decide), rfl, cop_one, fun x => by
    show (0 : Int) * _ = _
    rw [← trim_ev top, h]
    show 0 * ev bottom x = 0 * _
    omega⟩
theorem trim_one {bottom : Po} (b1 : ev bottom 0 = 1) (h : (trim bottom).length = 1) : trim bottom = [1] := by
  have e := trim_ev bottom 0
  rw [b1] at e
  match trim bottom, h, e with
  | [a], _, e => have : a + 0 * 0 = 1 := e; rw [show a = 1 by omega]
theorem red_plain {top bottom : Po} (b1 : ev bottom 0 = 1) (h : (trim bottom).length = 1) : Red top bottom (trim top) (trim bottom) := by
  have e := trim_one b1 h
  refine ⟨trim_tm _, trim_tm _, by rw [trim_ev]; exact b1, by rw [e]; exact cop_one, fun x => by rw [trim_ev, trim_ev]⟩
theorem red_mono {top bottom : Po} {k : Nat} {a : Int} (b1 : ev bottom 0 = 1) (a0 : a ≠ 0) (h : trim top = zp k [a]) : Red top bottom (trim top) (trim bottom) :=
  ⟨trim_tm _, trim_tm _, by rw [trim_ev]; exact b1, by rw [h]; exact cop_z (cop_const a0), fun x => by rw [trim_ev, trim_ev]⟩
theorem zp_tm : ∀ (k : Nat) {l : Po}, Tm l → l ≠ [] → Tm (zp k l)
  | 0, l, h, _ => h
  | k + 1, l, h, n => fun ne => by
    have : zp k l ≠ [] := by
      cases k with
      | zero => exact n
      | succ k => exact List.cons_ne_nil _ _
    show (0 :: zp k l).getLast _ ≠ 0
    rw [List.getLast_cons this]
    exact zp_tm k h n this
/-- the loop ends -/
theorem loop_ends {α : Type} {f : Nat → Option α} {bits Bd : Nat} (hb : 1 ≤ bits) (h : ∀ b, Bd ≤ b → f b ≠ none) : ∃ k, f (bits * 2 ^ k) ≠ none ∧ (∀ j, j < k → f (bits * 2 ^ j) = none) ∧ (k = 0 ∨ bits * 2 ^ (k - 1) < Bd) := by
  obtain ⟨k, hk, hl⟩ := least (P := fun k => f (bits * 2 ^ k) ≠ none) ⟨Bd, h _ (by
    have h1 : Bd < 2 ^ Bd := Nat.lt_two_pow_self
    have h2 := Nat.le_mul_of_pos_left (2 ^ Bd) (show 0 < bits by omega)
    omega)⟩
  have hn : ∀ j, j < k → f (bits * 2 ^ j) = none := fun j hj => Classical.byContradiction fun z => hl j hj z
  refine ⟨k, hk, hn, ?_⟩
  by_cases k0 : k = 0
  · exact .inl k0
  · exact .inr (Nat.lt_of_not_le fun z => h _ z (hn (k - 1) (by omega)))
end SerM
namespace SerM
/-- the lists that a look gives don't end with 0 -/
theorem quo_tm {row F q : Po} (hr : Tm row) (rn : row ≠ []) (hF : Tm F) (F1 : F ≠ []) (h : quo row F = some q) : Tm q ∧ q ≠ [] := by
  have a1 : F.length ≠ 0 := fun z => F1 (List.length_eq_zero_iff.mp z)
  have a3 : row.length ≠ 0 := fun z => rn (List.length_eq_zero_iff.mp z)
  obtain ⟨he, hl⟩ := quo_some h (by omega)
  have lr := tm_lead hr rn
  have lF := tm_lead hF F1
  have qz : NZ q := by
    apply Classical.byContradiction
    intro z
    have q0 : ∀ i, co q i = 0 := fun i => Classical.byContradiction fun k => z ⟨i, k⟩
    exact lr.ne (by
      rw [← lr.at_, co_of_ev (q := []) 0 (fun x _ => by rw [he, zero_ev q0]; show _ * (0 : Int) = 0; omega) _, co_nil])
  obtain ⟨n, c, lq, nl⟩ := lead_of qz
  have lm := lead_mul lF lq
  have ce := co_of_ev (p := row) (q := mul F q) 0 fun x _ => by rw [he, ev_mul]
  have := (lead_uniq lr ⟨(ce _).trans lm.at_, lm.ne, fun i hi => (ce i).trans (lm.hi i hi)⟩).1
  have qn : q ≠ [] := fun z => by rw [z] at nl; simp at nl
  refine ⟨fun ne => ?_, qn⟩
  have e : q.getLast ne = co q n := by
    unfold co
    rw [List.getLast_eq_getElem, List.getD_eq_getElem?_getD, List.getElem?_eq_getElem nl]
    show _ = q[n]
    congr 1
    omega
  rw [e, lq.at_]; exact lq.ne
theorem look_tm {Y : Nat} {one other l r : Po} (hY : 2 ≤ Y) (o1 : ev other 0 = 1) (ht1 : Tm one) (n1 : one ≠ []) (ht2 : Tm other) (h : look Y one other = some (l, r)) : Tm l ∧ l ≠ [] ∧ Tm r := by
  unfold look at h
  have godd := gcd_odd (Y := Y) (one := one) o1
  generalize Int.gcd (ev one (2 * (Y : Int))) (ev other (2 * (Y : Int))) = D at *
  have hY' : 2 ≤ (Y : Int) := by omega
  have pe := digs_ev hY' D (D : Int) (by omega)
  have pt := digs_tm hY' D (D : Int) (by omega)
  generalize digs (Y : Int) D (D : Int) = p at *
  have p0 : co p 0 ≠ 0 := fun z => by
    obtain ⟨k, hk⟩ := ev_mod (p := p) (2 * (Y : Int))
    rw [pe, z, Int.mul_assoc] at hk
    omega
  have n2 : other ≠ [] := fun z => by rw [z] at o1; exact absurd o1 (by decide)
  cases hb : begun p with
  | none => rw [hb] at h; cases h
  | some F =>
    rw [hb] at h
    obtain ⟨hF, F0, Fl⟩ := begun_some p0 hb
    have Fn : F ≠ [] := fun z => by rw [z, co_nil] at F0; omega
    have pn : p ≠ [] := fun z => p0 (by rw [z, co_nil])
    have pl := (tm_lead pt pn)
    have Ft : Tm F := fun ne => by
      have e : F.getLast ne = co F (p.length - 1) := by
        have hlt : p.length - 1 < F.length := by
          have : p.length ≠ 0 := fun z => pn (List.length_eq_zero_iff.mp z)
          omega
        unfold co
        rw [List.getLast_eq_getElem, List.getD_eq_getElem?_getD, List.getElem?_eq_getElem hlt]
        show _ = F[p.length - 1]
        congr 1
        omega
      rw [e]
      intro z
      exact pl.ne (by rw [← pl.at_, hF, z]; simp)
    simp only at h
    cases hq1 : quo one F with
    | none => rw [hq1] at h; cases h
    | some l' =>
      cases hq2 : quo other F with
      | none => rw [hq1, hq2] at h; cases h
      | some r' =>
        rw [hq1, hq2] at h
        simp only [Option.some.injEq, Prod.mk.injEq] at h
        obtain ⟨rfl, rfl⟩ := h
        obtain ⟨a1, a2⟩ := quo_tm ht1 n1 Ft Fn hq1
        exact ⟨a1, a2, (quo_tm ht2 n2 Ft Fn hq2).1⟩
/-! ### root_bits -/
def bl (v : Int) : Nat := if v = 0 then 0 else Nat.log2 v.natAbs + 1
theorem bl_lt (v : Int) : v.natAbs < 2 ^ bl v := by
  unfold bl
  split
  · rename_i h; subst h; decide
  · rename_i h; exact Nat.lt_log2_self
theorem bl_ge {v : Int} (h : v ≠ 0) : 2 ^ (bl v - 1) ≤ v.natAbs := by
  unfold bl
  rw [if_neg h]
  exact Nat.log2_self_le (by omega)
theorem roots_dom {row : Po} {n rb B : Nat} {c : Int} (l : Lead row n c) (hrb : ∀ j, 1 ≤ j → j ≤ n → (((bl (co row (n - j)) : Nat) : Int) - ((bl c : Nat) - 1)).fdiv j ≤ (rb : Int) - 2) (r2 : 2 ≤ rb) (hB : rb + 2 ≤ B) : Dom row n (2 ^ B) := by
  have hW : (2 : Nat) ^ B = 4 * 2 ^ (B - 2) := by
    have : B = (B - 2) + 2 := by omega
    rw [this, Nat.pow_add, Nat.mul_comm]; simp
  refine dom_of hW (Nat.pow_pos (by omega)) (by rw [l.at_]; exact l.ne) l.hi fun j hj => ?_
  have h := hrb (n - j) (by omega) (by omega)
  rw [show n - (n - j) = j by omega] at h
  have hd : 0 < ((n - j : Nat) : Int) := by omega
  have hb1 : 1 ≤ bl c := by unfold bl; rw [if_neg l.ne]; omega
  have key : bl (co row j) + (n - j) ≤ (bl c - 1) + (B - 2) * (n - j) := by
    generalize hd' : n - j = d at *
    rw [Int.fdiv_eq_ediv_of_nonneg _ (by omega)] at h
    have e1 := Int.emod_add_mul_ediv (((bl (co row j) : Nat) : Int) - ((bl c : Nat) - 1)) (d : Int)
    have e2 := Int.emod_lt_of_pos (((bl (co row j) : Nat) : Int) - ((bl c : Nat) - 1)) hd
    have e3 := Int.mul_le_mul_of_nonneg_left h (show 0 ≤ (d : Int) by omega)
    have e4 : (d : Int) * ((rb : Int) - 2) + 2 * d ≤ ((B - 2) * d : Nat) := by
      have h5 := Int.mul_le_mul_of_nonneg_left (show (rb : Int) ≤ ((B - 2 : Nat) : Int) by omega) (show 0 ≤ (d : Int) by omega)
      rw [Int.natCast_mul, Int.mul_sub]
      rw [Int.mul_comm (((B - 2 : Nat)) : Int) (d : Int)]
      omega
    generalize (B - 2) * d = Z at *
    omega
  have h1 := bl_lt (co row j)
  have h2 := bl_ge l.ne
  rw [l.at_]
  calc (co row j).natAbs * 2 ^ (n - j) ≤ 2 ^ bl (co row j) * 2 ^ (n - j) := Nat.mul_le_mul_right _ (by omega)
    _ = 2 ^ (bl (co row j) + (n - j)) := by rw [Nat.pow_add]
    _ ≤ 2 ^ ((bl c - 1) + (B - 2) * (n - j)) := Nat.pow_le_pow_right (by omega) key
    _ = 2 ^ (bl c - 1) * (2 ^ (B - 2)) ^ (n - j) := by rw [Nat.pow_add, Nat.pow_mul]
    _ ≤ c.natAbs * (2 ^ (B - 2)) ^ (n - j) := Nat.mul_le_mul_right _ h2
end SerM
namespace SerM
theorem dv_len {a P : Po} (ta : Tm a) (hP : NZ P) (h : Dv a P) : a.length ≤ P.length := by
  by_cases an : a = []
  · subst an; exact Nat.zero_le _
  · have l := tm_lead ta an
    apply Classical.byContradiction
    intro z
    obtain ⟨i, hi⟩ := hP
    exact hi (dv_short l (by omega) h i)
theorem dv_trim {g f : Po} (h : Dv g f) : Dv (trim g) f := by
  obtain ⟨w, hw⟩ := h
  exact ⟨w, fun x => by rw [trim_ev]; exact hw x⟩
theorem cop_trim {a b : Po} (h : Cop a b) : Cop (trim a) (trim b) := fun f m c f0 lf ⟨u, hu⟩ ⟨v, hv⟩ =>
  h f m c f0 lf ⟨u, fun x => by rw [← trim_ev]; exact hu x⟩ ⟨v, fun x => by rw [← trim_ev]; exact hv x⟩
def rb2 (A m : Nat) : Nat := (2 * (2 * m) * fb A m + 1) ^ (2 * m + 1)
/-- how great a power is enough; P / Q is the same series in small numbers -/
theorem look_bd {one other P Q : Po} {A m A2 m2 Y : Nat} (t1 : Tm one) (n1 : one ≠ []) (t2 : Tm other) (o1 : ev other 0 = 1) (hP : NZ P) (q1 : ev Q 0 = 1) (same : ∀ x, ev one x * ev Q x = ev P x * ev other x)
    (Pm : P.length ≤ m) (Qm : Q.length ≤ m) (PA : ∀ i, (co P i).natAbs ≤ A) (QA : ∀ i, (co Q i).natAbs ≤ A) (om : other.length ≤ m2) (oA : ∀ i, (co other i).natAbs ≤ A2) (hY : 2 ≤ Y) (hb : rb2 A m * fb A2 m2 < Y) : look Y one other ≠ none := by
  obtain ⟨g, a, b, g1, b1, ha, hbb, hc⟩ := gcd_ex other.length one other (fun i hi => co_len hi) o1
  obtain ⟨g', a', b', g1', b1', ha', hb', hc'⟩ := gcd_ex Q.length P Q (fun i hi => co_len hi) q1
  have gb : NZ (mul g g') := nz_of1 (by rw [ev_mul, g1, g1']; rfl)
  have cross : ∀ x, ev a x * ev b' x = ev a' x * ev b x := by
    have := ev_cancel (a := mul a b') (b := mul a' b) gb fun x => by
      rw [ev_mul, ev_mul, ev_mul]
      have h := same x
      rw [ha, hbb, ha', hb'] at h
      grind
    intro x
    have h := this x
    rwa [ev_mul, ev_mul] at h
  obtain ⟨ea, eb⟩ := cop_uniq hc hc' b1 b1' cross
  have daP : Dv (trim a) P := dv_trim ⟨g', fun x => by rw [ha', ea]; grind⟩
  have dbQ : Dv (trim b) Q := dv_trim ⟨g', fun x => by rw [hb', eb]; grind⟩
  have dgo : Dv (trim g) other := dv_trim ⟨b, fun x => hbb x⟩
  have hQ : NZ Q := nz_of1 q1
  have hO : NZ other := nz_of1 o1
  have la := dv_len (trim_tm a) hP daP
  have lb := dv_len (trim_tm b) hQ dbQ
  have lg := dv_len (trim_tm g) hO dgo
  have bA := fac_bd hP Pm (by omega) PA daP
  have bB := fac_bd hQ Qm (by omega) QA dbQ
  have bG := fac_bd hO om (by omega) oA dgo
  have b1t : ev (trim b) 0 = 1 := by rw [trim_ev]; exact b1
  have g1t : ev (trim g) 0 = 1 := by rw [trim_ev]; exact g1
  have bn : trim b ≠ [] := fun z => by rw [z] at b1t; exact absurd b1t (by decide)
  have bl0 : (trim b).length ≠ 0 := fun z => bn (List.length_eq_zero_iff.mp z)
  have f1 : 1 ≤ fb A m := by
    have := bB 0
    rw [co0_ev, b1t] at this
    exact this
  obtain ⟨s, t, r, r0, hr, rb⟩ := small_r (da := (trim a).length - 1) (db := (trim b).length - 1) b1t (cop_trim hc) (by omega) (tm_lead (trim_tm b) bn) (by omega) f1 bA bB
  have rb' : r.natAbs ≤ rb2 A m := by
    refine Nat.le_trans rb ?_
    have e1 : 2 * ((trim a).length - 1 + ((trim b).length - 1)) * fb A m + 1 ≤ 2 * (2 * m) * fb A m + 1 := by
      have := Nat.mul_le_mul_right (fb A m) (show 2 * ((trim a).length - 1 + ((trim b).length - 1)) ≤ 2 * (2 * m) by omega)
      omega
    exact Nat.le_trans (Nat.pow_le_pow_left e1 _) (Nat.pow_le_pow_right (by omega) (by omega))
  rw [look_ends (g := trim g) (a := trim a) (b := trim b) (R := rb2 A m) (G := fb A2 m2) hY (trim_tm g) (trim_tm a) (trim_tm b) t1 t2 g1t b1t (fun x => by rw [trim_ev, trim_ev]; exact ha x) (fun x => by rw [trim_ev, trim_ev]; exact hbb x) bG (fun E d1 d2 => ?_) hb]
  · exact fun z => by cases z
  · obtain ⟨u, hu⟩ := d1
    obtain ⟨v, hv⟩ := d2
    have h := hr (2 * (Y : Int))
    rw [hu, hv] at h
    have d : (E : Int) ∣ r := ⟨ev s (2 * (Y : Int)) * u + ev t (2 * (Y : Int)) * v, by rw [← h]; grind⟩
    have := Nat.le_of_dvd (show 0 < r.natAbs by omega) (Int.natAbs_dvd_natAbs.mpr d)
    simpa using Nat.le_trans this rb'
/-- the whole of `cancelled`: after k looks in vain, one that gives the reduced form -/
theorem canc_all {one other P Q : Po} {A m A2 m2 bits n Bd : Nat} (t1 : Tm one) (n1 : one ≠ []) (t2 : Tm other) (o1 : ev other 0 = 1) (hP : NZ P) (q1 : ev Q 0 = 1) (same : ∀ x, ev one x * ev Q x = ev P x * ev other x)
    (Pm : P.length ≤ m) (Qm : Q.length ≤ m) (PA : ∀ i, (co P i).natAbs ≤ A) (QA : ∀ i, (co Q i).natAbs ≤ A) (om : other.length ≤ m2) (oA : ∀ i, (co other i).natAbs ≤ A2)
    (b2 : 2 ≤ bits) (hBd : rb2 A m * fb A2 m2 < 2 ^ (Bd - 1)) (hdom : ∀ B, bits ≤ B → Dom one n (2 ^ B) ∨ Dom other n (2 ^ B)) :
    ∃ k l r, look (2 ^ (bits * 2 ^ k - 1)) one other = some (l, r) ∧ (∀ j, j < k → look (2 ^ (bits * 2 ^ j - 1)) one other = none) ∧ (k = 0 ∨ bits * 2 ^ (k - 1) < Bd + 2)
      ∧ Cop l r ∧ ev r 0 = 1 ∧ (∀ x, ev one x * ev r x = ev other x * ev l x) ∧ Tm l ∧ l ≠ [] ∧ Tm r := by
  obtain ⟨k, h1, h2, h3⟩ := loop_ends (f := fun b => look (2 ^ (b - 1)) one other) (bits := bits) (Bd := Bd + 2) (by omega) fun b hb => by
    have p2 : (2 : Nat) ^ 1 ≤ 2 ^ (b - 1) := Nat.pow_le_pow_right (by omega) (by omega)
    have p3 : (2 : Nat) ^ (Bd - 1) ≤ 2 ^ (b - 1) := Nat.pow_le_pow_right (by omega) (by omega)
    exact look_bd t1 n1 t2 o1 hP q1 same Pm Qm PA QA om oA p2 (by omega)
  cases e : look (2 ^ (bits * 2 ^ k - 1)) one other with
  | none => exact absurd e h1
  | some lr =>
    obtain ⟨l, r⟩ := lr
    have kb : bits ≤ bits * 2 ^ k := Nat.le_mul_of_pos_right _ (Nat.pow_pos (by omega))
    have p2 : (2 : Nat) ^ 1 ≤ 2 ^ (bits * 2 ^ k - 1) := Nat.pow_le_pow_right (by omega) (by omega)
    have p4 : 2 * 2 ^ (bits * 2 ^ k - 1) = 2 ^ (bits * 2 ^ k) := by
      rw [Nat.mul_comm, ← Nat.pow_succ]; congr 1; omega
    have dom := hdom (bits * 2 ^ k) kb
    rw [← p4] at dom
    obtain ⟨c1, c2, c3⟩ := look_sound p2 o1 t1 t2 dom e
    obtain ⟨d1, d2, d3⟩ := look_tm p2 o1 t1 n1 t2 e
    exact ⟨k, l, r, e, h2, h3, c1, c2, c3, d1, d2, d3⟩
end SerM
namespace SerM
theorem drop_z : ∀ (k : Nat) {P r Q o : Po}, ev o 0 = 1 → (∀ x, ev (zp k r) x * ev Q x = ev P x * ev o x) → ∀ x, ev r x * ev Q x = ev (P.drop k) x * ev o x
  | 0, P, r, Q, o, _, h => h
  | k + 1, P, r, Q, o, o1, h => by
    have P0 : ev P 0 = 0 := by
      have := h 0
      have e : ev (zp (k + 1) r) 0 = 0 := by show 0 + 0 * ev (zp k r) 0 = (0 : Int); omega
      rw [e, o1] at this
      omega
    have hP : ∀ x, ev P x = x * ev P.tail x := fun x => by
      cases P with
      | nil => show (0 : Int) = x * 0; omega
      | cons c w =>
        have : c = 0 := by have : c + 0 * ev w 0 = 0 := P0; omega
        subst this
        show 0 + x * ev w x = x * ev w x
        omega
    have e1 : ∀ x, ev ([0, 1] : Po) x = x := fun x => by show 0 + x * (1 + x * 0) = x; grind
    have ih := drop_z k (P := P.tail) (r := r) (Q := Q) (o := o) o1 fun x => by
      rw [← ev_mul, ← ev_mul]
      refine ev_cancel (p := [0, 1]) ⟨1, by decide⟩ (fun x => ?_) x
      have h1 := h x
      have h2 : ev (zp (k + 1) r) x = x * ev (zp k r) x := by show 0 + x * ev (zp k r) x = _; omega
      rw [hP, h2] at h1
      rw [e1, ev_mul, ev_mul]
      grind
    have e : P.drop (k + 1) = P.tail.drop k := by cases P <;> simp
    rw [e]; exact ih
theorem co_drop (P : Po) (k i : Nat) : co (P.drop k) i = co P (k + i) := by
  unfold co
  rw [List.getD_eq_getElem?_getD, List.getD_eq_getElem?_getD, List.getElem?_drop]
theorem red_of {top bottom P Q u v : Po} (q1 : ev Q 0 = 1) (b1 : ev bottom 0 = 1) (same : ∀ x, ev top x * ev Q x = ev P x * ev bottom x) (h : Red top bottom u v) : Red P Q u v :=
  ⟨h.tu, h.tv, h.v1, h.cop, by
    have : ∀ x, ev bottom x * ev (mul u Q) x = ev bottom x * ev (mul P v) x := fun x => by
      have h1 := h.eq x
      have h2 := same x
      rw [ev_mul, ev_mul]
      grind
    intro x
    have e := ev_cancel (nz_of1 b1) this x
    rwa [ev_mul, ev_mul] at e⟩
theorem red_dv {P Q u v : Po} (q1 : ev Q 0 = 1) (h : Red P Q u v) : Dv u P ∧ Dv v Q := by
  obtain ⟨g', a', b', g1', b1', ha', hb', hc'⟩ := gcd_ex Q.length P Q (fun i hi => co_len hi) q1
  have e : ∀ x, ev u x * ev b' x = ev a' x * ev v x := by
    have := ev_cancel (a := mul u b') (b := mul a' v) (nz_of1 g1') fun x => by
      have h1 := h.eq x
      rw [ha', hb'] at h1
      rw [ev_mul, ev_mul]
      grind
    intro x
    have h2 := this x
    rwa [ev_mul, ev_mul] at h2
  obtain ⟨e1, e2⟩ := cop_uniq h.cop hc' h.v1 b1' e
  exact ⟨⟨g', fun x => by rw [ha', e1]; grind⟩, ⟨g', fun x => by rw [hb', e2]; grind⟩⟩
theorem nz_of {p : Po} (t : Tm p) (n : p ≠ []) : NZ p := ⟨_, by rw [(tm_lead t n).at_]; exact (tm_lead t n).ne⟩
theorem red_small {P Q u v : Po} {A m : Nat} (q1 : ev Q 0 = 1) (h : Red P Q u v) (Pm : P.length ≤ m) (Qm : Q.length ≤ m) (PA : ∀ i, (co P i).natAbs ≤ A) (QA : ∀ i, (co Q i).natAbs ≤ A) :
    u.length ≤ m ∧ v.length ≤ m ∧ (∀ i, (co u i).natAbs ≤ fb A m) ∧ ∀ i, (co v i).natAbs ≤ fb A m := by
  obtain ⟨d1, d2⟩ := red_dv q1 h
  have hQ := nz_of1 q1
  have l2 := dv_len h.tv hQ d2
  have b2 := fac_bd hQ Qm (by omega) QA d2
  by_cases u0 : u = []
  · subst u0
    exact ⟨Nat.zero_le _, by omega, fun i => by rw [co_nil]; exact Nat.zero_le _, b2⟩
  · have hP : NZ P := Classical.byContradiction fun z => by
      have z' : ∀ i, co P i = 0 := fun i => Classical.byContradiction fun k => z ⟨i, k⟩
      have : ∀ x, ev u x = ev [] x := ev_cancel hQ fun x => by
        have h1 := h.eq x
        rw [zero_ev z'] at h1
        show _ = ev Q x * 0
        grind
      obtain ⟨i, hi⟩ := nz_of h.tu u0
      exact hi (by rw [co_of_ev 0 (fun x _ => this x) i, co_nil])
    have l1 := dv_len h.tu hP d1
    exact ⟨by omega, by omega, fac_bd hP Pm (by omega) PA d1, b2⟩
/-- the quotient of one and other, P / Q the same in small numbers -/
structure Sml (top bottom P Q : Po) (A m A2 m2 Bd : Nat) : Prop where
  b1 : ev bottom 0 = 1
  q1 : ev Q 0 = 1
  same : ∀ x, ev top x * ev Q x = ev P x * ev bottom x
  Pm : P.length ≤ m
  Qm : Q.length ≤ m
  PA : ∀ i, (co P i).natAbs ≤ A
  QA : ∀ i, (co Q i).natAbs ≤ A
  om : bottom.length ≤ m2
  oA : ∀ i, (co bottom i).natAbs ≤ A2
  bd : rb2 A m * fb A2 m2 < 2 ^ (Bd - 1)
theorem sml_canc {top bottom P Q rest : Po} {A m A2 m2 Bd k bits n : Nat} (S : Sml top bottom P Q A m A2 m2 Bd) (h : trim top = zp k rest) (tr : Tm rest) (rn : rest ≠ []) (b2 : 2 ≤ bits) (hdom : ∀ B, bits ≤ B → Dom rest n (2 ^ B) ∨ Dom (trim bottom) n (2 ^ B)) :
    ∃ j l r, look (2 ^ (bits * 2 ^ j - 1)) rest (trim bottom) = some (l, r) ∧ (∀ i, i < j → look (2 ^ (bits * 2 ^ i - 1)) rest (trim bottom) = none) ∧ (j = 0 ∨ bits * 2 ^ (j - 1) < Bd + 2) ∧ Red top bottom (zp k l) r := by
  have o1 : ev (trim bottom) 0 = 1 := by rw [trim_ev]; exact S.b1
  have same : ∀ x, ev rest x * ev Q x = ev (P.drop k) x * ev (trim bottom) x := drop_z k o1 fun x => by rw [← h, trim_ev, trim_ev]; exact S.same x
  have hP : NZ (P.drop k) := Classical.byContradiction fun z => by
    have z' : ∀ i, co (P.drop k) i = 0 := fun i => Classical.byContradiction fun k => z ⟨i, k⟩
    have : ∀ x, ev rest x = ev [] x := ev_cancel (nz_of1 S.q1) fun x => by
      have h1 := same x
      rw [zero_ev z'] at h1
      show _ = ev Q x * 0
      grind
    obtain ⟨i, hi⟩ := nz_of tr rn
    exact hi (by rw [co_of_ev 0 (fun x _ => this x) i, co_nil])
  obtain ⟨j, l, r, h1, h2, h3, c1, c2, c3, d1, d2, d3⟩ := canc_all (A := A) (m := m) (A2 := A2) (m2 := m2) tr rn (trim_tm bottom) o1 hP S.q1 same (by rw [List.length_drop]; have := S.Pm; omega) S.Qm (fun i => by rw [co_drop]; exact S.PA _) S.QA (Nat.le_trans (trim_len _) S.om) (fun i => by rw [trim_co]; exact S.oA i) b2 S.bd hdom
  refine ⟨j, l, r, h1, h2, h3, zp_tm k d1 d2, d3, c2, cop_z c1, fun x => ?_⟩
  have e1 := c3 x
  have e2 := trim_ev top x
  rw [h, ev_zp] at e2
  rw [trim_ev] at e1
  rw [ev_zp, ← e2]
  grind
end SerM
/-! ### // by any whole number but 0 -/
namespace L2
open PySem PySem.Spec PyProof.Rows
def CDivZ (_ j : Int) : Prop := j ≠ 0 ∧ j.natAbs.log2 < 9000
theorem op_fdivZ {X : Cx} : OpR X (binaryOp .FloorDiv) (rI CDivZ fun i j => .int (i.fdiv j)) := opI fun _ _ _ _ _ _ _ hc q => floordiv_int hc.1 q (.inl (PyProof.noPylong_of_log2 hc.2))
end L2
namespace Un
open PySem L2 TL
section
variable {P : Program} {w : World} {K : PySem.W.Frag} {mg : Str → Option Value} {base : Heap}
/-! ### polynomials of the program -/
abbrev iv (p : SerM.Po) : List V := p.map V.int
/-- a row: a list or a tuple of whole numbers -/
def RowV (K : PySem.W.Frag) (H : Hp) (x : V) (p : SerM.Po) : Prop := ∃ a, x = .ref a ∧ (SqL K H a (iv p) ∨ SqT K H a (iv p))
theorem RowV.len {H : Hp} {x : V} {p : SerM.Po} (h : RowV K H x p) : LenV K x H p.length := by
  obtain ⟨a, rfl, h | h⟩ := h
  · exact .inl ⟨_, h, by simp⟩
  · exact .inr ⟨_, h, by simp⟩
theorem iv_at {p : SerM.Po} {i : Nat} (h : i < p.length) : (iv p)[i]? = some (.int (SerM.co p i)) := by
  unfold SerM.co
  rw [List.getElem?_map, List.getD_eq_getElem?_getD, List.getElem?_eq_getElem h]; rfl
theorem RowV.ix {H : Hp} {x : V} {p : SerM.Po} {Q : VK} (h : RowV K H x p) {z : Int} {i : Nat} (hz : z = (i : Int)) (hi : i < p.length) (q : Q (.int (SerM.co p i)) H) : rIx K x (.int z) H Q := by
  have e := iv_at hi
  have ea : atI (iv p) z = some (.int (SerM.co p i)) := by
    rw [hz]; exact atI_nat e
  obtain ⟨a, rfl, h | h⟩ := h
  · exact .inl ⟨a, _, z, _, rfl, rfl, h, ea, q⟩
  · exact .inr (.inl ⟨a, _, z, _, rfl, rfl, h, ea, q⟩)
structure PolT (K : PySem.W.Frag) (w : World) (mg : Str → Option Value) : Prop where
  len : mg "len" = none
  list : mg "list" = none
  range : mg "range" = none
  enum : mg "enumerate" = none
  max : mg "max" = none
  min : mg "min" = none
  rev : mg "reversed" = none
  any : mg "any" = none
  gcd : mg "gcd" = some (.builtin "math.gcd")
  spare : ∃ t, mg "SPARE_BITS" = some (.int 32 t)
abbrev sTrimmed : Stmt := top 18
def spTrimmed (K : PySem.W.Frag) : Sp := fun vs H Q _ => ∃ (x : V) (p : SerM.Po), vs = [x] ∧ RowV K H x p ∧ p.length < 1000000 ∧ ∀ (b : Addr) (H' : Hp), Same H H' → H b = none → H' b = some (.lst (iv (SerM.trim p))) → Q (.ref b) H'
theorem scTrimmed : FnScope ["row", "length"] ["row"] (defScope sTrimmed) := ⟨rfl, rfl, rfl, by decide +kernel, rfl, by decide +kernel, by decide +kernel⟩
theorem cut_take {p : SerM.Po} {l : Nat} (h : l ≤ p.length) : cutV (iv p) none (some (l : Int)) = iv (p.take l) := by
  unfold cutV
  have e1 : HT.sIx (iv p).length 0 none = 0 := rfl
  have e2 : HT.sIx (iv p).length (iv p).length (some (l : Int)) = l := by
    rw [HT.sIx_nat, List.length_map]; omega
  rw [e1, e2, List.drop_zero, Nat.sub_zero]
  exact List.map_take.symm
theorem take_trim {p : SerM.Po} {l : Nat} (hl : l ≤ p.length) (h0 : ∀ i, l ≤ i → SerM.co p i = 0) (h : l = 0 ∨ SerM.co p (l - 1) ≠ 0) : p.take l = SerM.trim p := by
  have lt : (p.take l).length = l := by rw [List.length_take]; omega
  have co : ∀ i, i < l → SerM.co (p.take l) i = SerM.co p i := fun i hi => by
    unfold SerM.co
    rw [List.getD_eq_getElem?_getD, List.getD_eq_getElem?_getD, List.getElem?_take_of_lt hi]
  refine SerM.tm_ext (fun ne => ?_) (SerM.trim_tm p) fun i => ?_
  · have l0 : l ≠ 0 := fun z => ne (by subst z; rfl)
    have e : (p.take l).getLast ne = SerM.co (p.take l) (l - 1) := by
      unfold SerM.co
      rw [List.getLast_eq_getElem, List.getD_eq_getElem?_getD, List.getElem?_eq_getElem (by omega)]
      show _ = (p.take l)[l - 1]
      congr 1; omega
    rw [e, co _ (by omega)]
    rcases h with h | h
    · exact absurd h l0
    · exact h
  · rw [SerM.trim_co]
    by_cases hi : i < l
    · exact co i hi
    · rw [SerM.co_len (by omega), h0 i (by omega)]
theorem ok_trimmed {f : Addr} {fd : FuncData} (F : Fun K "trimmed" "trimmed" sTrimmed f fd) (T : PolT K w mg) : FnOk P w K mg base CX0 1 f fd ["row"] (spTrimmed K) := by
  refine F.ok scTrimmed (fun vs H Q E h => ?_) (fun cdv A outer s H vs Q E hr h => ?_)
  · obtain ⟨x, p, rfl, _⟩ := h
    rfl
  obtain ⟨x, p, rfl, R, hl, q⟩ := h
  refine ⟨_, (pss_cons (ps_set (i := 1) scTrimmed.nd rfl (by first | exact Or.inl rfl | exact Or.inr rfl) (pe_callB call_len (by rfl) T.len PySem.boot_len (pa_cons (pv 0) pa_nil)))
 (pss_cons (ps_while PassesOwn.never (PW.pt (pw_and (pt_cmpR op_gt (pv 1) pe_int (nomark _)) (pw_and1 (pt_cmpR op_eq (pe_ix ix_seq (pv 0) (pe_op op_sub (pv 1) pe_int) (fun _ _ => rfl)) pe_int (nomark _)))))
 (pss_one (ps_set (i := 1) scTrimmed.nd rfl (by first | exact Or.inl rfl | exact Or.inr rfl) (pe_op op_sub (pv 1) pe_int))))
 (pss_one (ps_ret (pe_callTy call_list_of (by rfl) T.list (by decide +kernel) (pa_cons (pe_slice (sl_list.or sl_tupA) (pv 0) po_none (po_some (pv 1))) pa_nil)))))), ?_⟩
  refine ⟨x, rfl, x, p.length, rfl, R.len, ?_⟩
  refine ⟨fun m σ H2 => ∃ l : Nat, σ = [some x, some (.int (l : Int))] ∧ H2 = H ∧ l ≤ p.length ∧ (∀ i, l ≤ i → SerM.co p i = 0) ∧ m = l, ⟨_, p.length, rfl, rfl, Nat.le_refl _, fun i hi => SerM.co_len hi, rfl⟩, ?_⟩
  rintro m σ H2 ⟨l, rfl, rfl, hlp, h0, rfl⟩
  have out : (m = 0 ∨ SerM.co p (m - 1) ≠ 0) → ∀ σ : L2.St, σ = [some x, some (.int (m : Int))] → tRet (tCB (fun xs H Q => ∃ p ys, xs = [V.ref p] ∧ (SqL K H p ys ∨ SqT K H p ys) ∧ ∀ (l : Addr), H l = none → Q (V.ref l) (upd H l (HO.lst ys)))
      (tCons (tSl (fun x lo hi H Q => rSlL K x lo hi H Q ∨ rSlA K x lo hi H Q) (tVar 0) tNoPart (tPart (tVar 1))) tNil)) { nx := fun x H' => Q V.non H', rt := Q } σ H2 := fun h σ hσ => by
    subst hσ
    have et := take_trim hlp h0 h
    have ec := cut_take hlp
    rw [et] at ec
    refine ⟨x, rfl, .int (m : Int), rfl, (m : Int), rfl, ?_⟩
    obtain ⟨a, rfl, R | R⟩ := R
    · refine .inl ⟨a, _, rfl, R, fun b hb => ?_⟩
      rw [ec]
      refine ⟨b, _, rfl, .inl (SqL.of upd_same), fun c hc => ?_⟩
      exact q c _ ((same_upd hb _).trans (same_upd hc _)) ((same_upd hb _).free hc) upd_same
    · refine .inr ⟨a, _, rfl, R, fun hw => ⟨a, _, rfl, .inr R, fun c hc => ?_⟩, fun _ b hb => ?_⟩
      · have hm : m = p.length := by
          have := hw.2
          rw [HT.sIx_nat, List.length_map] at this; omega
        rw [hm, List.take_of_length_le (Nat.le_refl _)] at et
        rw [← et] at q
        exact q c _ (same_upd hc _) hc upd_same
      · rw [ec]
        refine ⟨b, _, rfl, .inr (SqT.of upd_same), fun c hc => ?_⟩
        exact q c _ ((same_upd hb _).trans (same_upd hc _)) ((same_upd hb _).free hc) upd_same
  refine ⟨_, rfl, _, _, rfl, rfl, _, rfl, ?_⟩
  refine ite2 (fun c => ?_) (fun c => ?_)
  · have m1 : 0 < m := by have := of_decide_eq_true c; omega
    refine ⟨x, rfl, _, rfl, _, _, rfl, rfl, R.ix (i := m - 1) (by omega) (by omega) ?_⟩
    refine ⟨rfl, _, rfl, ?_⟩
    rw [dec_int]
    refine ite2 (fun c2 => ?_) (fun c2 => ?_)
    · have z : SerM.co p (m - 1) = 0 := eq_of_beq c2
      refine ⟨fun σ' H' => ∃ m', m' < m ∧ ∃ l : Nat, σ' = [some x, some (.int (l : Int))] ∧ H' = H2 ∧ l ≤ p.length ∧ (∀ i, l ≤ i → SerM.co p i = 0) ∧ m' = l, fun σ' H' h => h, ?_⟩
      refine ⟨_, rfl, _, _, rfl, rfl, ?_⟩
      refine ⟨m - 1, by omega, m - 1, ?_, rfl, by omega, fun i hi => ?_, rfl⟩
      · show [some x, some (V.int ((m : Int) - 1))] = _
        rw [show ((m : Int) - 1) = ((m - 1 : Nat) : Int) by omega]
      · by_cases e : i = m - 1
        · rw [e]; exact z
        · exact h0 i (by omega)
    · exact out (.inr fun z => c2 (by rw [z]; rfl)) _ rfl
  · have m0 : m = 0 := by
      apply Classical.byContradiction
      intro z
      exact c (decide_eq_true (by omega))
    exact out (.inl m0) _ rfl
end
end Un
namespace Un
open PySem L2 TL
section
variable {P : Program} {w : World} {K : PySem.W.Frag} {mg : Str → Option Value} {base : Heap}
theorem iv_get {p : SerM.Po} {i : Nat} {v : V} (h : (iv p)[i]? = some v) : i < p.length ∧ v = .int (SerM.co p i) := by
  have hi : i < p.length := by
    have := (List.getElem?_eq_some_iff.mp h).1
    rwa [List.length_map] at this
  rw [iv_at hi] at h
  exact ⟨hi, (Option.some.inj h).symm⟩
/-! ### order_of -/
abbrev sOrderOf : Stmt := top 19
def spOrderOf (K : PySem.W.Frag) : Sp := fun vs H Q _ => ∃ (a : Addr) (p : SerM.Po), vs = [.ref a] ∧ SqL K H a (iv p) ∧
  (∀ (k : Nat) (H' : Hp), Same H H' → k < p.length → SerM.co p k ≠ 0 → (∀ i, i < k → SerM.co p i = 0) → Q (.int (k : Int)) H') ∧ ((∀ i, SerM.co p i = 0) → ∀ H', Same H H' → Q .non H')
theorem scOrderOf : FnScope ["row", "k", "value"] ["row"] (defScope sOrderOf) := ⟨rfl, rfl, rfl, by decide +kernel, rfl, by decide +kernel, by decide +kernel⟩
theorem ok_orderOf {f : Addr} {fd : FuncData} (F : Fun K "order_of" "order_of" sOrderOf f fd) (T : PolT K w mg) : FnOk P w K mg base CX0 1 f fd ["row"] (spOrderOf K) := by
  refine F.ok scOrderOf (fun vs H Q E h => ?_) (fun cdv A outer s H vs Q E hr h => ?_)
  · obtain ⟨a, p, rfl, _⟩ := h
    rfl
  obtain ⟨a, p, rfl, R, q1, q2⟩ := h
  refine ⟨_, (pss_cons (ps_for PassesOwn.never rfl (pi_enum (by rfl) T.enum (pa_cons (pv 0) pa_nil)) (pg_tup (by rfl) (pgs_cons (pg_name (i := 1) scOrderOf.nd rfl (by first | exact Or.inl rfl | exact Or.inr rfl)) (pgs_cons (pg_name (i := 2) scOrderOf.nd rfl (by first | exact Or.inl rfl | exact Or.inr rfl)) pgs_nil)))
 (pss_one (ps_if (pt_cmpR op_ne (pv 2) pe_int (nomark _))
 (pss_one (ps_ret (pv 1)))
 pss_nil)))
 (pss_one (ps_ret pe_non))), ?_⟩
  refine ⟨_, rfl, a, _, rfl, R, ?_⟩
  refine for_it walk_enum (fun i σ H2 => (∃ v1 v2, σ = [some (.ref a), v1, v2]) ∧ Same H H2 ∧ ∀ j, j < i → SerM.co p j = 0) ⟨⟨_, _, rfl⟩, Same.refl H, fun j hj => absurd hj (Nat.not_lt_zero j)⟩ (fun i σ H2 _ h => h.2.1.seq R) ?_ ?_
  · rintro i v σ H2 H3 hi ⟨⟨v1, v2, rfl⟩, s2, hz⟩ ⟨t, x, z, rfl, ht, rfl, hx, hz'⟩
    cases hx
    obtain ⟨hi', rfl⟩ := iv_get hz'
    have s3 := s2.trans (same_upd ht (.tup [.int (i : Nat), .int (SerM.co p i)]))
    refine ⟨t, _, rfl, SqT.of upd_same, rfl, _, _, rfl, _, _, rfl, rfl, ?_⟩
    refine ⟨_, rfl, rfl, _, rfl, ?_⟩
    rw [dec_int]
    refine ite2 (fun c => ?_) (fun c => ?_)
    · refine ⟨_, rfl, q1 i _ s3 hi' (fun z => ?_) hz⟩
      rw [z] at c
      exact absurd c (by decide)
    · refine ⟨⟨_, _, rfl⟩, s3, fun j hj => ?_⟩
      by_cases e : j = i
      · rw [e]
        apply Classical.byContradiction
        intro z
        exact c (by simp [z])
      · exact hz j (by omega)
  · rintro σ H2 ⟨⟨v1, v2, rfl⟩, s2, hz⟩
    refine q2 (fun i => ?_) H2 s2
    by_cases hi : i < p.length
    · exact hz i (by rw [List.length_map]; exact hi)
    · exact SerM.co_len (by omega)
/-! ### value_at -/
abbrev sValueAt : Stmt := top 24
def spValueAt (K : PySem.W.Frag) : Sp := fun vs H Q _ => ∃ (a : Addr) (p : SerM.Po) (n c : Nat), vs = [.ref a, .int (n : Int)] ∧ SqL K H a (iv p) ∧ (∀ i, (SerM.co p i).natAbs < 2 ^ c) ∧ c + (n + 1) * p.length + n + 2 ≤ 2 ^ 27 ∧
  ∀ (H' : Hp), Same H H' → Q (.int (SerM.ev p (2 ^ n))) H'
theorem scValueAt : FnScope ["row", "bits", "value", "coefficient"] ["row", "bits"] (defScope sValueAt) := ⟨rfl, rfl, rfl, by decide +kernel, rfl, by decide +kernel, by decide +kernel⟩
theorem bits_le {i : Int} {k : Nat} (h : i.natAbs < 2 ^ k) : Builtin.Int.intBits i ≤ k + 1 := by
  unfold Builtin.Int.intBits
  split
  · omega
  · rename_i z
    have := (Nat.log2_lt (by intro e; exact z (by simpa using e))).mpr h
    omega
theorem ev_bits {p : SerM.Po} {n c : Nat} (h : ∀ i, (SerM.co p i).natAbs < 2 ^ c) : (SerM.ev p (2 ^ n)).natAbs < 2 ^ (c + (n + 1) * p.length + 1) := by
  have h1 := SerM.ev_bd (A := 2 ^ c) (L := 2 ^ n) (x := (2 : Int) ^ n) (by rw [Int.natAbs_pow]; exact Nat.le_refl _) p fun i => Nat.le_of_lt (h i)
  have h2 : (1 + 2 ^ n) ^ p.length ≤ (2 ^ (n + 1)) ^ p.length := Nat.pow_le_pow_left (by have := Nat.pow_pos (n := n) (show 0 < 2 by decide); rw [Nat.pow_succ]; omega) _
  have h3 := Nat.mul_le_mul_left (2 ^ c) h2
  rw [← Nat.pow_mul, ← Nat.pow_add] at h3
  have h4 : 2 ^ (c + (n + 1) * p.length) < 2 ^ (c + (n + 1) * p.length + 1) := Nat.pow_lt_pow_right (by decide) (by omega)
  omega
theorem ok_valueAt {f : Addr} {fd : FuncData} (F : Fun K "value_at" "value_at" sValueAt f fd) (T : PolT K w mg) : FnOk P w K mg base CX0 1 f fd ["row", "bits"] (spValueAt K) := by
  refine F.ok scValueAt (fun vs H Q E h => ?_) (fun cdv A outer s H vs Q E hr h => ?_)
  · obtain ⟨a, p, n, c, rfl, _⟩ := h
    rfl
  obtain ⟨a, p, n, c, rfl, R, hc, hb, q⟩ := h
  refine ⟨_, (pss_cons (ps_set (i := 2) scValueAt.nd rfl (by first | exact Or.inl rfl | exact Or.inr rfl) pe_int)
 (pss_cons (ps_for PassesOwn.never rfl (pi_reversed (by rfl) T.rev (pa_cons (pv 0) pa_nil)) (pg_name (i := 3) scValueAt.nd rfl (by first | exact Or.inl rfl | exact Or.inr rfl))
 (pss_one (ps_set (i := 2) scValueAt.nd rfl (by first | exact Or.inl rfl | exact Or.inr rfl) (pe_op op_add (pe_op op_shlN (pv 2) (pv 1)) (pv 3)))))
 (pss_one (ps_ret (pv 2))))), ?_⟩
  refine ⟨_, rfl, a, _, rfl, R, ?_⟩
  refine for_it (walk_rev (K := K)) (fun i σ H2 => (∃ v3, σ = [some (.ref a), some (.int (n : Int)), some (.int (SerM.ev (p.drop (p.length - i)) (2 ^ n))), v3]) ∧ H2 = H) ⟨⟨none, ?_⟩, rfl⟩ (fun i σ H2 _ h => by rw [h.2]; exact R) ?_ ?_
  · rw [Nat.sub_zero, List.drop_length]; rfl
  · rintro i v σ H2 H3 hi ⟨⟨v3, rfl⟩, rfl⟩ ⟨rfl, hx⟩
    rw [List.length_map] at hi hx
    obtain ⟨hj, rfl⟩ := iv_get hx
    have e1 : p.drop (p.length - (i + 1)) = SerM.co p (p.length - 1 - i) :: p.drop (p.length - i) := by
      have e2 : p.length - (i + 1) = p.length - 1 - i := by omega
      rw [e2, List.drop_eq_getElem_cons hj, show p.length - 1 - i + 1 = p.length - i by omega]
      congr 1
      unfold SerM.co
      rw [List.getD_eq_getElem?_getD, List.getElem?_eq_getElem hj]; rfl
    have dl : (p.drop (p.length - i)).length ≤ p.length := by rw [List.length_drop]; omega
    have cd : ∀ l, (SerM.co (p.drop (p.length - i)) l).natAbs < 2 ^ c := fun l => by
      have : SerM.co (p.drop (p.length - i)) l = SerM.co p (p.length - i + l) := by
        unfold SerM.co
        rw [List.getD_eq_getElem?_getD, List.getD_eq_getElem?_getD, List.getElem?_drop]
      rw [this]; exact hc _
    have hbit := bits_le (ev_bits (n := n) cd)
    have hm := Nat.mul_le_mul_left (n + 1) dl
    refine ⟨_, rfl, _, rfl, SerM.ev (p.drop (p.length - i)) (2 ^ n), n, rfl, rfl, ⟨by omega, ?_⟩, ?_⟩
    · generalize (n + 1) * (p.drop (p.length - i)).length = z1 at *
      generalize (n + 1) * p.length = z2 at *
      omega
    refine ⟨_, rfl, _, _, rfl, rfl, ⟨some (.int (SerM.co p (p.length - 1 - i))), ?_⟩, rfl⟩
    rw [e1]
    show [_, _, some (V.int (SerM.ev (p.drop (p.length - i)) (2 ^ n) * 2 ^ n + SerM.co p (p.length - 1 - i))), _] = _
    rw [show SerM.ev (SerM.co p (p.length - 1 - i) :: p.drop (p.length - i)) (2 ^ n) = SerM.ev (p.drop (p.length - i)) (2 ^ n) * 2 ^ n + SerM.co p (p.length - 1 - i) by
      show SerM.co p (p.length - 1 - i) + 2 ^ n * SerM.ev (p.drop (p.length - i)) (2 ^ n) = _
      rw [Int.mul_comm]; omega]
  · rintro σ H2 ⟨⟨v3, rfl⟩, rfl⟩
    rw [List.length_map, Nat.sub_self, List.drop_zero]
    exact ⟨_, rfl, q H2 (Same.refl H2)⟩
end
end Un
namespace Un
open PySem L2 TL
section
variable {P : Program} {w : World} {K : PySem.W.Frag} {mg : Str → Option Value} {base : Heap}
/-! ### digits_of -/
theorem dg_half {Y : Int} (hY : 2 ≤ Y) {r e : Int} (h : r = SerM.dg Y r + 2 * Y * e) : 2 * e.natAbs ≤ r.natAbs := by
  obtain ⟨a, b⟩ := SerM.dg_rng hY r
  have k : ∀ e : Int, 1 ≤ e → 2 * e + Y ≤ 2 * Y * e := fun e he => by
    have h1 := Int.mul_le_mul_of_nonneg_left he (show 0 ≤ Y by omega)
    have h2 := Int.mul_le_mul_of_nonneg_right hY (show 0 ≤ e by omega)
    rw [Int.mul_assoc]
    omega
  rcases Int.lt_trichotomy e 0 with z | z | z
  · have := k (-e) (by omega)
    simp only [Int.mul_neg] at this
    omega
  · omega
  · have := k e (by omega)
    omega
theorem digs_len {Y : Int} (hY : 2 ≤ Y) : ∀ (B n : Nat) (r : Int), r.natAbs < 2 ^ B → (SerM.digs Y n r).length ≤ B
  | B, 0, r, _ => Nat.zero_le _
  | B, n + 1, r, h => by
    by_cases r0 : r = 0
    · subst r0; rw [SerM.digs_zero]; exact Nat.zero_le _
    · obtain ⟨e, h1, h2⟩ := SerM.dg_next hY (r := r)
      have hh := dg_half hY h2
      cases B with
      | zero => simp at h; omega
      | succ B =>
        rw [Nat.pow_succ] at h
        have := digs_len hY B n e (by omega)
        simp only [SerM.digs, r0, if_false, h1, List.length_cons]
        omega
abbrev sDigitsOf : Stmt := top 25
def spDigitsOf (K : PySem.W.Frag) : Sp := fun vs H Q _ => ∃ (r : Int) (n B : Nat), vs = [.int r, .int ((n + 1 : Nat) : Int)] ∧ 1 ≤ n ∧ n < 134217727 ∧ r.natAbs < 2 ^ B ∧ B ≤ 1000000 ∧
  ∀ (m : Addr) (H' : Hp), Same H H' → H m = none → H' m = some (.lst (iv (SerM.digs (2 ^ n) r.natAbs r))) → Q (.ref m) H'
theorem scDigitsOf : FnScope ["number", "bits", "base", "made", "rest", "digit"] ["number", "bits"] (defScope sDigitsOf) := ⟨rfl, rfl, rfl, by decide +kernel, rfl, by decide +kernel, by decide +kernel⟩
theorem ok_digitsOf {f : Addr} {fd : FuncData} (F : Fun K "digits_of" "digits_of" sDigitsOf f fd) (T : PolT K w mg) : FnOk P w K mg base CX0 1 f fd ["number", "bits"] (spDigitsOf K) := by
  refine F.ok scDigitsOf (fun vs H Q E h => ?_) (fun cdv A outer s H vs Q E hr h => ?_)
  · obtain ⟨r, n, B, rfl, _⟩ := h
    rfl
  obtain ⟨r, n, B, rfl, n1, nb, hB, Bb, q⟩ := h
  have hY : (2 : Int) ≤ 2 ^ n := by
    have : (2 : Int) ^ n = ((2 ^ n : Nat) : Int) := by simp
    rw [this]
    have := Nat.pow_le_pow_right (show 0 < 2 by decide) n1
    omega
  have e2 : (2 : Int) ^ (n + 1) = 2 * 2 ^ n := by rw [Int.pow_succ, Int.mul_comm]
  have hsz : 1000000 < sizeLine := by decide
  refine ⟨_, (pss_cons (ps_set (i := 2) scDigitsOf.nd rfl (by first | exact Or.inl rfl | exact Or.inr rfl) (pe_op op_oneShl pe_int (pv 1)))
 (pss_cons (ps_set (i := 3) scDigitsOf.nd rfl (by first | exact Or.inl rfl | exact Or.inr rfl) (pe_lst pa_nil))
 (pss_cons (ps_set (i := 4) scDigitsOf.nd rfl (by first | exact Or.inl rfl | exact Or.inr rfl) (pv 0))
 (pss_cons (ps_while PassesOwn.never (pt_cmpR op_ne (pv 4) pe_int (nomark _))
 (pss_cons (ps_set (i := 5) scDigitsOf.nd rfl (by first | exact Or.inl rfl | exact Or.inr rfl) (pe_op op_andM (pv 4) (pe_op op_sub (pv 2) pe_int)))
 (pss_cons (ps_if (pt_cmpR op_gt (pv 5) (pe_op op_fdivW (pv 2) pe_int) (nomark _))
 (pss_one (ps_set (i := 5) scDigitsOf.nd rfl (by first | exact Or.inl rfl | exact Or.inr rfl) (pe_op op_sub (pv 5) (pv 2))))
 pss_nil)
 (pss_cons (ps_expr (pe_bm PySem.F.plainAttrs_list PySem.F.slot_list_append PySem.F.type_list_append mt_append (pv 3) (pa_cons (pv 5) pa_nil)))
 (pss_one (ps_set (i := 4) scDigitsOf.nd rfl (by first | exact Or.inl rfl | exact Or.inr rfl) (pe_op op_shrN (pe_op op_sub (pv 4) (pv 5)) (pv 1))))))))
 (pss_one (ps_ret (pv 3))))))), ?_⟩
  refine ⟨_, rfl, n + 1, rfl, rfl, (by omega), ?_⟩
  refine ⟨(by show 0 ≤ sizeLine; decide), fun m hm => ?_⟩
  refine ⟨_, rfl, ?_⟩
  refine ⟨fun k σ H2 => ∃ (v5 : Option V) (rest : Int) (acc : SerM.Po) (fu : Nat), σ = [some (.int r), some (.int ((n + 1 : Nat) : Int)), some (.int (2 ^ (n + 1))), some (.ref m), some (.int rest), v5] ∧ Same H H2 ∧ H2 m = some (.lst (iv acc)) ∧ rest.natAbs ≤ fu ∧ acc ++ SerM.digs (2 ^ n) fu rest = SerM.digs (2 ^ n) r.natAbs r ∧ k = rest.natAbs,
    ⟨_, none, r, [], r.natAbs, rfl, same_upd hm _, upd_same, Nat.le_refl _, rfl, rfl⟩, ?_⟩
  rintro k σ H2 ⟨v5, rest, acc, fu, rfl, s2, hm2, hfu, hd, rfl⟩
  refine ⟨_, rfl, rfl, _, rfl, ?_⟩
  rw [dec_int]
  refine ite2 (fun c => ?_) (fun c => ?_)
  · have r0 : rest ≠ 0 := fun z => by rw [z] at c; exact absurd c (by decide)
    obtain ⟨fu, rfl⟩ : ∃ f', fu = f' + 1 := ⟨fu - 1, by omega⟩
    obtain ⟨e, h1, h2⟩ := SerM.dg_next hY (r := rest)
    have hs := SerM.dg_small hY r0 h2
    have hdl := digs_len hY B r.natAbs r hB
    rw [← hd] at hdl
    simp only [SerM.digs, r0, if_false, h1] at hd hdl
    rw [List.length_append, List.length_cons] at hdl
    refine ⟨fun σ' H' => ∃ m', m' < rest.natAbs ∧ ∃ (v5 : Option V) (rest : Int) (acc : SerM.Po) (fu : Nat), σ' = [some (.int r), some (.int ((n + 1 : Nat) : Int)), some (.int (2 ^ (n + 1))), some (.ref m), some (.int rest), v5] ∧ Same H H' ∧ H' m = some (.lst (iv acc)) ∧ rest.natAbs ≤ fu ∧ acc ++ SerM.digs (2 ^ n) fu rest = SerM.digs (2 ^ n) r.natAbs r ∧ m' = rest.natAbs, fun σ' H' h => h, ?_⟩
    refine ⟨_, rfl, _, rfl, _, _, rfl, rfl, rest, n + 1, rfl, rfl, ?_⟩
    refine ⟨_, rfl, _, rfl, _, 2, rfl, rfl, ⟨by decide, by decide⟩, _, _, rfl, rfl, _, rfl, ?_⟩
    have eb : (2 : Int) ^ (n + 1) / 2 = 2 ^ n := by rw [e2]; omega
    rw [eb]
    have fin : ∀ H' : Hp, H' = upd H2 m (.lst (iv (acc ++ [SerM.dg (2 ^ n) rest]))) → ∃ m', m' < rest.natAbs ∧ ∃ (v5 : Option V) (rest' : Int) (acc : SerM.Po) (fu : Nat), [some (.int r), some (.int ((n + 1 : Nat) : Int)), some (.int (2 ^ (n + 1))), some (.ref m), some (.int e), some (.int (SerM.dg (2 ^ n) rest))] = [some (.int r), some (.int ((n + 1 : Nat) : Int)), some (.int (2 ^ (n + 1))), some (.ref m), some (.int rest'), v5] ∧ Same H H' ∧ H' m = some (.lst (iv acc)) ∧ rest'.natAbs ≤ fu ∧ acc ++ SerM.digs (2 ^ n) fu rest' = SerM.digs (2 ^ n) r.natAbs r ∧ m' = rest'.natAbs := fun H' hH => by
      subst hH
      refine ⟨_, hs, _, e, acc ++ [SerM.dg (2 ^ n) rest], fu, rfl, fun b o hb => ?_, upd_same, by omega, ?_, rfl⟩
      · rw [upd_ne (ne_of_none hb hm)]; exact s2 _ _ hb
      · rw [← hd]; simp
    have esh : (rest - SerM.dg (2 ^ n) rest) / 2 ^ (n + 1) = e := by rw [e2]; exact h1
    have eapp : iv acc ++ [V.int (SerM.dg (2 ^ n) rest)] = iv (acc ++ [SerM.dg (2 ^ n) rest]) := by simp [iv]
    refine ite2 (fun c2 => ?_) (fun c2 => ?_)
    · have edg : rest % 2 ^ (n + 1) - 2 ^ (n + 1) = SerM.dg (2 ^ n) rest := by
        have := of_decide_eq_true c2
        unfold SerM.dg
        rw [e2] at this ⊢
        rw [if_pos this]
      refine ⟨_, rfl, _, rfl, _, _, rfl, rfl, ?_⟩
      refine ⟨_, rfl, .inl ⟨rfl, _, SqL.of hm2⟩, _, rfl, m, _, _, rfl, rfl, hm2, (by rw [List.length_map]; omega), ?_⟩
      refine ⟨_, rfl, _, rfl, _, _, rfl, rfl, _, rfl, _, n + 1, rfl, rfl, ?_⟩
      have F2 := fin _ rfl
      rw [← eapp, ← esh, ← edg] at F2
      exact F2
    · have edg : rest % 2 ^ (n + 1) = SerM.dg (2 ^ n) rest := by
        unfold SerM.dg
        rw [e2] at c2 ⊢
        rw [if_neg (fun z => c2 (decide_eq_true z))]
      refine ⟨_, rfl, .inl ⟨rfl, _, SqL.of hm2⟩, _, rfl, m, _, _, rfl, rfl, hm2, (by rw [List.length_map]; omega), ?_⟩
      refine ⟨_, rfl, _, rfl, _, _, rfl, rfl, _, rfl, _, n + 1, rfl, rfl, ?_⟩
      have F2 := fin _ rfl
      rw [← eapp, ← esh, ← edg] at F2
      exact F2
  · have r0 : rest = 0 := by
      apply Classical.byContradiction
      intro z
      exact c (by simp [z])
    subst r0
    rw [SerM.digs_zero, List.append_nil] at hd
    rw [hd] at hm2
    exact ⟨_, rfl, q m H2 s2 hm hm2⟩
end
end Un
namespace Un
open PySem L2 TL
section
variable {P : Program} {w : World} {K : PySem.W.Frag} {mg : Str → Option Value} {base : Heap}
/-! ### begun_with_one -/
theorem fdiv_le {a b : Int} (b0 : b ≠ 0) : (a.fdiv b).natAbs ≤ a.natAbs + 2 := by
  have h1 := Int.emod_add_mul_ediv a b
  have h2 := Int.emod_nonneg a b0
  have h3 := Int.emod_lt a b0
  have hq : (a / b).natAbs ≤ a.natAbs + 1 := Nat.le_of_not_lt fun z => by
    have h4 := Nat.mul_le_mul_left b.natAbs (show a.natAbs + 2 ≤ (a / b).natAbs by omega)
    rw [← Int.natAbs_mul, Nat.mul_add] at h4
    have h5 := Nat.le_mul_of_pos_left a.natAbs (show 0 < b.natAbs by omega)
    omega
  rw [Int.fdiv_eq_ediv]
  split <;> omega
theorem any_not (g : Int → Bool) : ∀ l : List Int, (l.map fun v => !g v).any id = !(l.all g)
  | [] => rfl
  | a :: l => by
    rw [List.map_cons, List.any_cons, List.all_cons, any_not g l]
    cases g a <;> rfl
abbrev sBegunWithOne : Stmt := top 26
def spBegun (K : PySem.W.Frag) : Sp := fun vs H Q _ => ∃ (a : Addr) (p : SerM.Po) (c : Nat), vs = [.ref a] ∧ SqL K H a (iv p) ∧ p.length ≤ 1000000 ∧ SerM.co p 0 ≠ 0 ∧ (∀ i, (SerM.co p i).natAbs < 2 ^ c) ∧ c ≤ 9000 ∧
  (SerM.begun p = none → ∀ H', Same H H' → Q .non H') ∧ ∀ F, SerM.begun p = some F → ∀ (m : Addr) (H' : Hp), Same H H' → H m = none → H' m = some (.lst (iv F)) → Q (.ref m) H'
theorem scBegunWithOne : FnScope ["row", "first", "value"] ["row"] (defScope sBegunWithOne) := ⟨rfl, rfl, rfl, by decide +kernel, rfl, by decide +kernel, by decide +kernel⟩
theorem ok_begun {f : Addr} {fd : FuncData} (F : Fun K "begun_with_one" "begun_with_one" sBegunWithOne f fd) (T : PolT K w mg) : FnOk P w K mg base CX0 1 f fd ["row"] (spBegun K) := by
  refine F.ok scBegunWithOne (fun vs H Q E h => ?_) (fun cdv A outer s H vs Q E hr h => ?_)
  · obtain ⟨a, p, c, rfl, _⟩ := h
    rfl
  obtain ⟨a, p, c, rfl, R, hl, p0, hc, c9, q1, q2⟩ := h
  have pl : 0 < p.length := Nat.pos_of_ne_zero fun z => p0 (SerM.co_len (by omega))
  have lg : (SerM.co p 0).natAbs.log2 < 9000 := by
    have := (Nat.log2_lt (show (SerM.co p 0).natAbs ≠ 0 by omega)).mpr (hc 0)
    omega
  have hsz : 1000000 < sizeLine := by decide
  refine ⟨_, (pss_cons (ps_set (i := 1) scBegunWithOne.nd rfl (by first | exact Or.inl rfl | exact Or.inr rfl) (pe_ix ix_list (pv 0) pe_int (fun _ _ => rfl)))
 (pss_cons (ps_if (pt_val (pe_callB (cr_any rfl) (by rfl) T.any (by decide +kernel) (pa_cons (pe_lc (own := [("value", 2)]) (g := (gName 2)) rfl scBegunWithOne.nd (pi_list (pv 0)) (blkOk_by (own := [("value", 2)]) (N := ["row", "first", "value"]) (sc := defScope sBegunWithOne) (by decide +kernel)) (fun _ _ _ _ _ => (pg_name (i := 2) scBegunWithOne.nd rfl (Or.inl rfl) (Or.inr rfl))) (fun _ _ _ _ _ => pts_nil) (fun _ _ _ _ _ => (pe_cmpR op_ne (pe_op op_mulX (pe_op op_fdivZ (pv 2) (pv 1)) (pv 1)) (pv 2) (nomark _)))) pa_nil)))
 (pss_one (ps_ret pe_non))
 pss_nil)
 (pss_one (ps_ret (pe_lc (own := [("value", 2)]) (g := (gName 2)) rfl scBegunWithOne.nd (pi_list (pv 0)) (blkOk_by (own := [("value", 2)]) (N := ["row", "first", "value"]) (sc := defScope sBegunWithOne) (by decide +kernel)) (fun _ _ _ _ _ => (pg_name (i := 2) scBegunWithOne.nd rfl (Or.inl rfl) (Or.inr rfl))) (fun _ _ _ _ _ => pts_nil) (fun _ _ _ _ _ => (pe_op op_fdivZ (pv 2) (pv 1)))))))), ?_⟩
  refine ⟨_, rfl, a, _, 0, _, rfl, rfl, R, atI_nat (j := 0) (iv_at pl), ?_⟩
  refine ⟨_, rfl, a, rfl, ⟨_, R⟩, fun D hD => ?_⟩
  have s1 := same_upd hD (.lst [])
  refine lc_list (xs := iv p) (fun i H2 => Same H H2 ∧ H2 D = some (.lst (((p.take i).map fun v => !(v.fdiv (SerM.co p 0) * SerM.co p 0 == v)).map V.bl))) ⟨s1, by rw [upd_same]; rfl⟩ (fun i H2 _ h => h.1.seq R) (fun i x H2 hx ⟨s2, hD2⟩ => ?_) (fun H2 ⟨s2, hD2⟩ => ?_)
  · obtain ⟨hi, rfl⟩ := iv_get hx
    have b1 := bits_le (k := c + 2) (i := (SerM.co p i).fdiv (SerM.co p 0)) (by
      have h1 := fdiv_le (a := SerM.co p i) p0
      have h2 := hc i
      have h3 := Nat.pow_pos (n := c) (show 0 < 2 by decide)
      rw [Nat.pow_add]; omega)
    have b2 := bits_le (hc 0)
    refine ⟨rfl, _, rfl, _, rfl, _, _, rfl, rfl, ⟨p0, lg⟩, _, rfl, _, _, rfl, rfl, ?_, _, rfl, rfl, ?_⟩
    · show (_ : Int) + _ ≤ 134217728
      omega
    rw [dec_int]
    refine ⟨_, hD2, ?_, fun b o hb => ?_, ?_⟩
    · rw [List.length_map, List.length_map, List.length_take]; omega
    · rw [upd_ne (ne_of_none hb hD)]; exact s2 _ _ hb
    · rw [upd_same, List.take_add_one]
      have : p[i]? = some (SerM.co p i) := by
        unfold SerM.co
        rw [List.getD_eq_getElem?_getD, List.getElem?_eq_getElem hi]; rfl
      rw [this]
      simp
  · refine ⟨D, _, rfl, SqL.of hD2, _, rfl, ?_⟩
    have ea : ((p.take (iv p).length).map fun v => !(v.fdiv (SerM.co p 0) * SerM.co p 0 == v)).any id = !(p.all fun v => v.fdiv (SerM.co p 0) * SerM.co p 0 == v) := by
      rw [List.length_map, List.take_length]
      exact any_not (fun v => v.fdiv (SerM.co p 0) * SerM.co p 0 == v) p
    rw [ea]
    refine ite2 (fun cc => ?_) (fun cc => ?_)
    · refine q1 ?_ H2 s2
      unfold SerM.begun
      rw [if_neg]
      intro z
      rw [z] at cc
      exact absurd cc (by decide)
    · have hall : (p.all fun v => v.fdiv (SerM.co p 0) * SerM.co p 0 == v) = true := by
        cases z : (p.all fun v => v.fdiv (SerM.co p 0) * SerM.co p 0 == v) with
        | true => rfl
        | false => rw [z] at cc; exact absurd rfl cc
      have hb : SerM.begun p = some (p.map fun v => v.fdiv (SerM.co p 0)) := by unfold SerM.begun; rw [if_pos hall]
      refine ⟨_, rfl, a, rfl, ⟨_, s2.seq R⟩, fun D2 hD2' => ?_⟩
      have s3 := s2.trans (same_upd hD2' (.lst []))
      refine lc_list (xs := iv p) (fun i H3 => Same H H3 ∧ H3 D2 = some (.lst (iv ((p.take i).map fun v => v.fdiv (SerM.co p 0))))) ⟨s3, by rw [upd_same]; rfl⟩ (fun i H3 _ h => h.1.seq R) (fun i x H3 hx ⟨s4, hD4⟩ => ?_) (fun H3 ⟨s4, hD4⟩ => ?_)
      · obtain ⟨hi, rfl⟩ := iv_get hx
        refine ⟨rfl, _, rfl, _, rfl, _, _, rfl, rfl, ⟨p0, lg⟩, ?_⟩
        refine ⟨_, hD4, ?_, fun b o hb => ?_, ?_⟩
        · rw [List.length_map, List.length_map, List.length_take]; omega
        · rw [upd_ne (ne_of_none hb (s2.free hD2'))]; exact s4 _ _ hb
        · rw [upd_same, List.take_add_one]
          have : p[i]? = some (SerM.co p i) := by
            unfold SerM.co
            rw [List.getD_eq_getElem?_getD, List.getElem?_eq_getElem hi]; rfl
          rw [this]
          simp
      · rw [List.length_map, List.take_length] at hD4
        exact q2 _ hb D2 H3 s4 (s2.free hD2') hD4
end
end Un
namespace Un
open PySem L2 TL
section
variable {P : Program} {w : World} {K : PySem.W.Frag} {mg : Str → Option Value} {base : Heap}
/-- the list of the first n values of g -/
def tab (g : Nat → Int) (n : Nat) : SerM.Po := (List.range n).map g
theorem tab_len (g : Nat → Int) (n : Nat) : (tab g n).length = n := by simp [tab]
theorem tab_co {g : Nat → Int} {n i : Nat} (h : i < n) : SerM.co (tab g n) i = g i := by
  unfold SerM.co tab
  rw [List.getD_eq_getElem?_getD, List.getElem?_map, List.getElem?_range h]; rfl
theorem tab_eq {g h : Nat → Int} {n : Nat} (e : ∀ i, i < n → g i = h i) : tab g n = tab h n :=
  SerM.co_ext (by rw [tab_len, tab_len]) fun i => by
    by_cases z : i < n
    · rw [tab_co z, tab_co z, e i z]
    · rw [SerM.co_len (by rw [tab_len]; omega), SerM.co_len (by rw [tab_len]; omega)]
theorem tab_self (p : SerM.Po) : tab (SerM.co p) p.length = p :=
  SerM.co_ext (tab_len _ _) fun i => by
    by_cases z : i < p.length
    · exact tab_co z
    · rw [SerM.co_len (by rw [tab_len]; omega), SerM.co_len (by omega)]
theorem tab_get {g : Nat → Int} {n i : Nat} (z : i < n) : (iv (tab g n))[i]? = some (.int (g i)) := by
  rw [iv_at (by rw [tab_len]; exact z), tab_co z]
theorem tab_set (g : Nat → Int) (n j : Nat) (v : Int) : (iv (tab g n)).set j (.int v) = iv (tab (fun i => if i = j then v else g i) n) := by
  refine List.ext_getElem? fun i => ?_
  rw [List.getElem?_set, List.length_map, tab_len]
  by_cases z : i < n
  · rw [tab_get (g := fun i => if i = j then v else g i) z]
    by_cases e : j = i
    · rw [if_pos e, if_pos (by omega), if_pos e.symm]
    · rw [if_neg e, if_neg (fun x => e x.symm)]; exact tab_get z
  · rw [List.getElem?_eq_none (l := iv (tab (fun i => if i = j then v else g i) n)) (by rw [List.length_map, tab_len]; omega)]
    by_cases e : j = i
    · rw [if_pos e, if_neg (by omega)]
    · rw [if_neg e]; exact List.getElem?_eq_none (by rw [List.length_map, tab_len]; omega)
theorem ixN_nat {n i : Nat} (h : i < n) {z : Int} (hz : z = (i : Int)) : ixN n z = some i := by
  subst hz
  unfold ixN
  rw [if_pos (by omega), if_pos (by omega)]; simp
/-! ### quotient_of -/
def eR (row F : SerM.Po) (k i : Nat) : Int := SerM.co row i - SerM.co (SerM.mul (SerM.qt row F k) F) i
theorem eR_zero (row F : SerM.Po) (i : Nat) : eR row F 0 i = SerM.co row i := by
  unfold eR
  show SerM.co row i - SerM.co [] i = _
  rw [SerM.co_nil]; omega
theorem eR_step (row F : SerM.Po) (k i : Nat) : eR row F (k + 1) i = eR row F k i - (if k ≤ i then eR row F k k * SerM.co F (i - k) else 0) := by
  unfold eR
  rw [SerM.qt_step]
  omega
theorem eR_bd {row F : SerM.Po} {c d : Nat} (hr : ∀ i, (SerM.co row i).natAbs < 2 ^ c) (hF : ∀ i, (SerM.co F i).natAbs < 2 ^ d) : ∀ k i, (eR row F k i).natAbs < 2 ^ (c + k * (d + 1))
  | 0, i => by rw [eR_zero, Nat.zero_mul]; exact hr i
  | k + 1, i => by
    have ih := eR_bd hr hF k
    rw [eR_step]
    have h1 := ih i
    have e : 2 ^ (c + (k + 1) * (d + 1)) = 2 ^ (c + k * (d + 1)) * 2 ^ d * 2 := by rw [Nat.succ_mul, ← Nat.add_assoc, Nat.pow_add, Nat.pow_succ, Nat.mul_assoc]
    have hd : 1 ≤ 2 ^ d := Nat.pow_pos (by decide)
    have h3 : 2 ^ (c + k * (d + 1)) ≤ 2 ^ (c + k * (d + 1)) * 2 ^ d := Nat.le_mul_of_pos_right _ hd
    have h2 : (if k ≤ i then eR row F k k * SerM.co F (i - k) else 0).natAbs ≤ 2 ^ (c + k * (d + 1)) * 2 ^ d := by
      split
      · rw [Int.natAbs_mul]; exact Nat.mul_le_mul (Nat.le_of_lt (ih k)) (Nat.le_of_lt (hF _))
      · exact Nat.zero_le _
    rw [e]
    omega
theorem qt_snoc (row F : SerM.Po) (k : Nat) : SerM.qt row F (k + 1) = SerM.qt row F k ++ [eR row F k k] := rfl
abbrev sQuotientOf : Stmt := top 22
def spQuo (K : PySem.W.Frag) : Sp := fun vs H Q _ => ∃ (a b : Addr) (row F : SerM.Po) (c d : Nat), vs = [.ref a, .ref b] ∧ SqL K H a (iv row) ∧ SqL K H b (iv F) ∧ row.length ≤ 1000 ∧ 1 ≤ F.length ∧ F.length ≤ 1000000 ∧ (∀ i, (SerM.co row i).natAbs < 2 ^ c) ∧ (∀ i, (SerM.co F i).natAbs < 2 ^ d) ∧ c ≤ 100000 ∧ d ≤ 100000 ∧
  (SerM.quo row F = none → ∀ H', Same H H' → Q .non H') ∧ ∀ q, SerM.quo row F = some q → ∀ (m : Addr) (H' : Hp), Same H H' → H m = none → H' m = some (.lst (iv q)) → Q (.ref m) H'
theorem scQuotientOf : FnScope ["row", "factor", "rest", "made", "k", "times", "j", "value"] ["row", "factor"] (defScope sQuotientOf) := ⟨rfl, rfl, rfl, by decide +kernel, rfl, by decide +kernel, by decide +kernel⟩
theorem ok_quo {f g : Addr} {fd gd : FuncData} (F0 : Fun K "quotient_of" "quotient_of" sQuotientOf f fd) (T : PolT K w mg) (GO : Df P w K mg base 1 g gd "order_of" ["row"] (spOrderOf K)) : FnOk P w K mg base CX0 2 f fd ["row", "factor"] (spQuo K) := by
  refine F0.ok scQuotientOf (fun vs H Q E h => ?_) (fun cdv A outer s H vs Q E hr h => ?_)
  · obtain ⟨a, b, row, F, c, d, rfl, _⟩ := h
    rfl
  obtain ⟨a, b, row, F, c, d, rfl, Ra, Rb, rl, F1, Fl, hc, hd, c9, d9, q1, q2⟩ := h
  have hsz : 1000000 < sizeLine := by decide
  refine ⟨_, (pss_cons (ps_set (i := 2) scQuotientOf.nd rfl (by first | exact Or.inl rfl | exact Or.inr rfl) (pe_callTy call_list_of (by rfl) T.list (by decide +kernel) (pa_cons (pv 0) pa_nil)))
 (pss_cons (ps_set (i := 3) scQuotientOf.nd rfl (by first | exact Or.inl rfl | exact Or.inr rfl) (pe_lst pa_nil))
 (pss_cons (ps_for PassesOwn.never rfl (pi_range1 (by rfl) T.range (pa_cons (pe_op op_add (pe_op op_sub (pe_callB call_len_seq (by rfl) T.len PySem.boot_len (pa_cons (pv 0) pa_nil)) (pe_callB call_len_seq (by rfl) T.len PySem.boot_len (pa_cons (pv 1) pa_nil))) pe_int) pa_nil)) (pg_name (i := 4) scQuotientOf.nd rfl (by first | exact Or.inl rfl | exact Or.inr rfl))
 (pss_cons (ps_set (i := 5) scQuotientOf.nd rfl (by first | exact Or.inl rfl | exact Or.inr rfl) (pe_ix ix_list (pv 2) (pv 4) (fun _ _ => rfl)))
 (pss_cons (ps_expr (pe_bm PySem.F.plainAttrs_list PySem.F.slot_list_append PySem.F.type_list_append mt_append (pv 3) (pa_cons (pv 5) pa_nil)))
 (pss_one (ps_if (pt_cmpR op_ne (pv 5) pe_int (nomark _))
 (pss_one (ps_for PassesOwn.never rfl (pi_enum (by rfl) T.enum (pa_cons (pv 1) pa_nil)) (pg_tup (by rfl) (pgs_cons (pg_name (i := 6) scQuotientOf.nd rfl (by first | exact Or.inl rfl | exact Or.inr rfl)) (pgs_cons (pg_name (i := 7) scQuotientOf.nd rfl (by first | exact Or.inl rfl | exact Or.inr rfl)) pgs_nil)))
 (pss_one (ps_asg (pe_op op_sub (pe_ix ix_list (pv 2) (pe_op op_add (pv 4) (pv 6)) (fun _ _ => rfl)) (pe_op op_mulX (pv 5) (pv 7))) (pg_sub (pv 2) (pe_op op_add (pv 4) (pv 6)) set_list)))))
 pss_nil)))))
 (pss_one (ps_ret (pe_ifExp (pt_cmpR op_isN (pe_call GO.ok (hr.mono (by decide)) (by rfl) GO.m GO.kp GO.b .nil pass0 (pa_cons (pv 2) pa_nil)) pe_non (nomark _)) (pv 3) pe_non)))))), ?_⟩
  refine ⟨_, rfl, a, _, rfl, .inl Ra, fun x hx => ?_⟩
  have s1 := same_upd hx (.lst (iv row))
  refine ⟨(by show 0 ≤ sizeLine; decide), fun m hm => ?_⟩
  have s2 := s1.trans (same_upd hm (.lst []))
  have hxm : x ≠ m := ne_of_none upd_same hm
  have hmH : H m = none := s1.free hm
  refine ⟨_, rfl, a, _, rfl, .inl (s2.seq Ra), _, rfl, b, _, rfl, .inl (s2.seq Rb), _, _, rfl, rfl, _, _, rfl, rfl, _, rfl, (by rw [List.length_map, List.length_map]; omega), (by rw [List.length_map, List.length_map]; omega), ?_⟩
  have en : (((iv row).length : Int) - ((iv F).length : Int) + 1).toNat = row.length + 1 - F.length := by rw [List.length_map, List.length_map]; omega
  refine for_it (walk_range (lo := 0)) (fun k σ H2 => (∃ v4 v5 v6 v7, σ = [some (.ref a), some (.ref b), some (.ref x), some (.ref m), v4, v5, v6, v7]) ∧ Same H H2 ∧ H2 x = some (.lst (iv (tab (eR row F k) row.length))) ∧ H2 m = some (.lst (iv (SerM.qt row F k))))
    ⟨⟨none, none, none, none, rfl⟩, s2, ?_, upd_same⟩ (fun _ _ _ _ _ => trivial) ?_ ?_
  · rw [upd_ne hxm, upd_same, show tab (eR row F 0) row.length = tab (SerM.co row) row.length from tab_eq fun i _ => eR_zero row F i, tab_self]
  · rintro k v σ H2 H3 hk ⟨⟨v4, v5, v6, v7, rfl⟩, s3, hx3, hm3⟩ ⟨rfl, rfl⟩
    rw [en] at hk
    have kl : k < row.length := by omega
    have hat : ∀ {g : Nat → Int} {i : Nat} {z : Int}, z = (i : Int) → i < row.length → atI (iv (tab g row.length)) z = some (.int (g i)) := fun hz hi => by
      rw [hz]; exact atI_nat (tab_get hi)
    refine ⟨_, rfl, _, rfl, x, _, _, _, rfl, rfl, SqL.of hx3, hat (i := k) (by show (0 : Int) + k = k; omega) kl, ?_⟩
    refine ⟨_, rfl, .inl ⟨rfl, _, SqL.of hm3⟩, _, rfl, m, _, _, rfl, rfl, hm3, (by rw [List.length_map, SerM.qt_len]; omega), ?_⟩
    have eqt : iv (SerM.qt row F k) ++ [V.int (eR row F k k)] = iv (SerM.qt row F (k + 1)) := by rw [qt_snoc]; simp [iv]
    rw [eqt]
    have s4 : Same H (upd H3 m (.lst (iv (SerM.qt row F (k + 1))))) := fun o ob hb => by
      rw [upd_ne (ne_of_none hb hmH)]; exact s3 _ _ hb
    have hx4 : upd H3 m (.lst (iv (SerM.qt row F (k + 1)))) x = some (.lst (iv (tab (eR row F k) row.length))) := by rw [upd_ne hxm]; exact hx3
    have hm4 : upd H3 m (.lst (iv (SerM.qt row F (k + 1)))) m = some (.lst (iv (SerM.qt row F (k + 1)))) := upd_same
    generalize upd H3 m (.lst (iv (SerM.qt row F (k + 1)))) = H4 at s4 hx4 hm4 ⊢
    refine ⟨_, rfl, rfl, _, rfl, ?_⟩
    rw [dec_int]
    refine ite2 (fun cc => ?_) (fun cc => ?_)
    · refine ⟨_, rfl, b, _, rfl, s4.seq Rb, ?_⟩
      refine for_it walk_enum (fun j σ H5 => (∃ v6 v7, σ = [some (.ref a), some (.ref b), some (.ref x), some (.ref m), some (.int (0 + (k : Int))), some (.int (eR row F k k)), v6, v7]) ∧ Same H H5 ∧ H5 x = some (.lst (iv (tab (fun i => eR row F k i - if k ≤ i ∧ i < k + j then eR row F k k * SerM.co F (i - k) else 0) row.length))) ∧ H5 m = some (.lst (iv (SerM.qt row F (k + 1)))))
        ⟨⟨_, _, rfl⟩, s4, ?_, hm4⟩ (fun j σ H5 _ h => h.2.1.seq Rb) ?_ ?_
      · rw [hx4]
        congr 3
        exact tab_eq fun i _ => by rw [if_neg (by omega)]; omega
      · rintro j v σ H5 H6 hj ⟨⟨v6, v7, rfl⟩, s5, hx5, hm5⟩ ⟨t, y, z, rfl, ht, rfl, hy, hz⟩
        cases hy
        obtain ⟨hj', rfl⟩ := iv_get hz
        have tx : x ≠ t := ne_of_none hx5 ht
        have tm : m ≠ t := ne_of_none hm5 ht
        have s6 := s5.trans (same_upd ht (.tup [.int (j : Nat), .int (SerM.co F j)]))
        have hx6 : upd H5 t (.tup [.int (j : Nat), .int (SerM.co F j)]) x = _ := (upd_ne tx).trans hx5
        have hm6 : upd H5 t (.tup [.int (j : Nat), .int (SerM.co F j)]) m = _ := (upd_ne tm).trans hm5
        refine ⟨t, _, rfl, SqT.of upd_same, rfl, _, _, rfl, _, _, rfl, rfl, ?_⟩
        generalize upd H5 t (.tup [.int (j : Nat), .int (SerM.co F j)]) = H7 at s6 hx6 hm6 ⊢
        have ij : k + j < row.length := by omega
        have ei : (0 + (k : Int)) + (j : Int) = ((k + j : Nat) : Int) := by omega
        refine ⟨_, rfl, _, rfl, _, rfl, _, _, rfl, rfl, x, _, _, _, rfl, rfl, SqL.of hx6, hat (i := k + j) ei ij, ?_⟩
        refine ⟨_, rfl, _, rfl, _, _, rfl, rfl, ?_, _, _, rfl, rfl, _, rfl, _, rfl, _, rfl, _, _, rfl, rfl, x, _, _, k + j, rfl, rfl, hx6, ixN_nat (by rw [List.length_map, tab_len]; exact ij) ei, ?_⟩
        · have b1 := bits_le (eR_bd hc hd k k)
          have b2 := bits_le (hd j)
          have b3 := Nat.mul_le_mul (show k ≤ 1000 by omega) (show d + 1 ≤ 100001 by omega)
          show (_ : Int) + _ ≤ 134217728
          generalize k * (d + 1) = zz at *
          omega
        · refine ⟨⟨_, _, rfl⟩, fun o ob hb => ?_, ?_, ?_⟩
          · rw [upd_ne (ne_of_none hb hx)]; exact s6 _ _ hb
          · rw [upd_same]
            have := tab_set (fun i => eR row F k i - if k ≤ i ∧ i < k + j then eR row F k k * SerM.co F (i - k) else 0) row.length (k + j) (eR row F k (k + j) - (if k ≤ k + j ∧ k + j < k + j then eR row F k k * SerM.co F (k + j - k) else 0) - eR row F k k * SerM.co F j)
            refine congrArg (fun z => some (HO.lst z)) (this.trans ?_)
            congr 1
            refine tab_eq fun i hi => ?_
            by_cases e : i = k + j
            · subst e
              rw [if_pos rfl, if_neg (by omega), if_pos (by omega), show k + j - k = j by omega]; omega
            · rw [if_neg e]
              by_cases e2 : k ≤ i ∧ i < k + j
              · rw [if_pos e2, if_pos (by omega)]
              · rw [if_neg e2, if_neg (by omega)]
          · rw [upd_ne hxm.symm]; exact hm6
      · rintro σ H5 ⟨⟨v6, v7, rfl⟩, s5, hx5, hm5⟩
        refine ⟨⟨_, _, _, _, rfl⟩, s5, ?_, hm5⟩
        rw [hx5]
        congr 3
        refine tab_eq fun i hi => ?_
        rw [eR_step, List.length_map]
        by_cases e : k ≤ i ∧ i < k + F.length
        · rw [if_pos e, if_pos e.1]
        · rw [if_neg e]
          by_cases e2 : k ≤ i
          · rw [if_pos e2, SerM.co_len (by omega)]; omega
          · rw [if_neg e2]
    · have t0 : eR row F k k = 0 := by
        apply Classical.byContradiction
        intro z
        exact cc (by simp [z])
      refine ⟨⟨_, _, _, _, rfl⟩, s4, ?_, hm4⟩
      rw [hx4]
      congr 3
      refine tab_eq fun i _ => ?_
      rw [eR_step, t0]
      split <;> omega
  · rintro σ H2 ⟨⟨v4, v5, v6, v7, rfl⟩, s3, hx3, hm3⟩
    rw [en] at hx3 hm3
    refine ⟨_, rfl, x, _, rfl, SqL.of hx3, fun k H' s' hk ne hz => ?_, fun hz H' s' => ?_⟩
    · rw [tab_len] at hk
      rw [tab_co hk] at ne
      have hq : SerM.quo row F = none := by
        unfold SerM.quo
        rw [if_neg]
        intro z
        have := z k hk
        unfold eR at ne
        omega
      refine ⟨rfl, _, rfl, ?_⟩
      rw [decide_eq_false (fun z => by cases z)]
      exact iteF (q1 hq H' (s3.trans s'))
    · have hq : SerM.quo row F = some (SerM.qt row F (row.length + 1 - F.length)) := by
        unfold SerM.quo
        rw [if_pos]
        intro i hi
        have := hz i
        rw [tab_co hi] at this
        unfold eR at this
        omega
      refine ⟨rfl, _, rfl, ?_⟩
      rw [decide_eq_true rfl]
      exact iteT ⟨_, rfl, q2 _ hq m H' (s3.trans s') hmH (s' _ _ hm3)⟩
end
end Un
namespace Un
open PySem L2 TL
section
variable {P : Program} {w : World} {K : PySem.W.Frag} {mg : Str → Option Value} {base : Heap}
theorem ixL {X : Cx} {K : PySem.W.Frag} (hK : X.K = K) : IxR X (rIxL K) := by
  subst hK
  exact ix_list
/-! ### root_bits -/
theorem intBits_bl (i : Int) : Builtin.Int.intBits i = SerM.bl i := by
  unfold Builtin.Int.intBits SerM.bl
  by_cases h : i = 0
  · subst h; rfl
  · simp [h]
theorem bl_le {v : Int} {c : Nat} (h : v.natAbs < 2 ^ c) : SerM.bl v ≤ c := by
  unfold SerM.bl
  split
  · omega
  · rename_i z
    have := (Nat.log2_lt (show v.natAbs ≠ 0 by omega)).mpr h
    omega
abbrev sRootBits : Stmt := top 23
def rbAt (row : SerM.Po) (j : Nat) : Int := (((SerM.bl (SerM.co row (row.length - 1 - j)) : Nat) : Int) - (((SerM.bl (SerM.co row (row.length - 1)) : Nat) : Int) - 1)).fdiv (j : Int)
def spRootBits (K : PySem.W.Frag) : Sp := fun vs H Q _ => ∃ (a : Addr) (row : SerM.Po) (c : Nat), vs = [.ref a] ∧ SqL K H a (iv row) ∧ 1 ≤ row.length ∧ row.length ≤ 1000 ∧ (∀ i, (SerM.co row i).natAbs < 2 ^ c) ∧
  ∀ (rb : Nat) (H' : Hp), Same H H' → 2 ≤ rb → rb ≤ c + 3 → (∀ j, 1 ≤ j → j ≤ row.length - 1 → rbAt row j ≤ (rb : Int) - 2) → Q (.int (rb : Int)) H'
theorem scRootBits : FnScope ["row", "last", "lead", "j"] ["row"] (defScope sRootBits) := ⟨rfl, rfl, rfl, by decide +kernel, rfl, by decide +kernel, by decide +kernel⟩
theorem ok_rootBits {f : Addr} {fd : FuncData} (F : Fun K "root_bits" "root_bits" sRootBits f fd) (T : PolT K w mg) : FnOk P w K mg base CX0 1 f fd ["row"] (spRootBits K) := by
  refine F.ok scRootBits (fun vs H Q E h => ?_) (fun cdv A outer s H vs Q E hr h => ?_)
  · obtain ⟨a, p, c, rfl, _⟩ := h
    rfl
  obtain ⟨a, row, c, rfl, R, l1, l2, hc, q⟩ := h
  refine ⟨_, (pss_cons (ps_set (i := 1) scRootBits.nd rfl (by first | exact Or.inl rfl | exact Or.inr rfl) (pe_op op_sub (pe_callB call_len_seq (by rfl) T.len PySem.boot_len (pa_cons (pv 0) pa_nil)) pe_int))
 (pss_cons (ps_set (i := 2) scRootBits.nd rfl (by first | exact Or.inl rfl | exact Or.inr rfl) (pe_op op_sub (pe_bits (pe_ix ix_list (pv 0) (pv 1) (fun _ _ => rfl))) pe_int))
 (pss_one (ps_ret (pe_op op_add pe_int (pe_callB (cr_max rfl) (by rfl) T.max (by decide +kernel) (pa_cons (pe_op op_cat (pe_lst (pa_cons pe_int pa_nil)) (pe_lc (own := [("j", 3)]) (g := (gName 3)) rfl scRootBits.nd (pi_range2 (by rfl) T.range (pa_cons pe_int (pa_cons (pe_op op_add (pv 1) pe_int) pa_nil))) (blkOk_by (own := [("j", 3)]) (N := ["row", "last", "lead", "j"]) (sc := defScope sRootBits) (by decide +kernel)) (fun _ _ _ _ _ => (pg_name (i := 3) scRootBits.nd rfl (Or.inl rfl) (Or.inr rfl))) (fun _ _ _ _ _ => pts_nil) (fun _ _ _ _ _ => (pe_op op_fdivN (pe_op op_sub (pe_bits (pe_ix (ixL (K := K) rfl) (pv 0) (pe_op op_sub (pv 1) (pv 3)) (fun _ _ => rfl))) (pv 2)) (pv 3))))) pa_nil))))))), ?_⟩
  have el : ((iv row).length : Int) - 1 = ((row.length - 1 : Nat) : Int) := by rw [List.length_map]; omega
  have hat : ∀ {i : Nat} {z : Int}, z = (i : Int) → i < row.length → atI (iv row) z = some (.int (SerM.co row i)) := fun hz hi => by rw [hz]; exact atI_nat (iv_at hi)
  refine ⟨_, rfl, a, _, rfl, .inl R, _, _, rfl, rfl, ?_⟩
  refine ⟨_, rfl, _, rfl, a, _, _, _, rfl, rfl, R, hat (i := row.length - 1) el (by omega), _, rfl, _, _, rfl, rfl, ?_⟩
  rw [intBits_bl]
  refine ⟨(by show 1 ≤ sizeLine; decide), fun z hz => ?_⟩
  have s1 := same_upd hz (.lst [V.int 0])
  refine ⟨_, rfl, _, _, rfl, rfl, 1, _, rfl, ⟨by decide, by decide, (by rw [List.length_map]; omega), (by rw [List.length_map]; omega)⟩, fun D hD => ?_⟩
  have s2 := s1.trans (same_upd hD (.lst []))
  have hzD : z ≠ D := ne_of_none upd_same hD
  have en : ((((iv row).length : Int) - 1 + 1) - 1).toNat = row.length - 1 := by rw [List.length_map]; omega
  have hsz : 1000000 < sizeLine := by decide
  refine lc_it (walk_range (lo := 1)) (fun i H2 => Same H H2 ∧ H2 z = some (.lst [V.int 0]) ∧ H2 D = some (.lst (iv (tab (fun k => rbAt row (k + 1)) i)))) ⟨s2, by rw [upd_ne hzD, upd_same], by rw [upd_same]; rfl⟩ (fun _ _ _ _ => trivial) (fun i x H2 H3 hi ⟨s3, hz3, hD3⟩ ⟨e1, e2⟩ => ?_) (fun H2 ⟨s3, hz3, hD3⟩ => ?_)
  · subst e1 e2
    have hi' : i < row.length - 1 := by rw [← en]; exact hi
    have ei : ((iv row).length : Int) - 1 - (1 + (i : Int)) = ((row.length - 1 - (i + 1) : Nat) : Int) := by rw [List.length_map]; omega
    refine ⟨rfl, _, rfl, _, rfl, _, rfl, _, _, rfl, rfl, a, _, _, _, rfl, rfl, s3.seq R, hat ei (by omega), _, rfl, _, rfl, _, _, rfl, rfl, _, rfl, _, _, rfl, rfl, ⟨by omega, by omega⟩, ?_⟩
    rw [intBits_bl]
    refine ⟨_, hD3, by rw [List.length_map, tab_len]; omega, fun b o hb => ?_, ?_, ?_⟩
    · rw [upd_ne (ne_of_none hb (s1.free hD))]; exact s3 _ _ hb
    · rw [upd_ne hzD]; exact hz3
    · rw [upd_same]
      have e3 : tab (fun k => rbAt row (k + 1)) (i + 1) = tab (fun k => rbAt row (k + 1)) i ++ [rbAt row (i + 1)] := by
        unfold tab
        rw [List.range_succ, List.map_append]; rfl
      rw [e3]
      have e4 : (1 + (i : Int)) = ((i + 1 : Nat) : Int) := by omega
      show some (HO.lst (iv (tab (fun k => rbAt row (k + 1)) i) ++ [V.int ((((SerM.bl (SerM.co row (row.length - 1 - (i + 1))) : Nat) : Int) - (((SerM.bl (SerM.co row (row.length - 1)) : Nat) : Int) - 1)).fdiv (1 + (i : Int)))])) = _
      rw [e4]
      simp [iv, rbAt]
  · rw [en] at hD3
    refine ⟨z, D, _, _, rfl, rfl, hz3, hD3, (by rw [List.length_map, tab_len]; show 1 + _ ≤ _; omega), fun y hy => ?_⟩
    have s5 := s3.trans (same_upd hy (.lst ([V.int 0] ++ iv (tab (fun k => rbAt row (k + 1)) (row.length - 1)))))
    refine ⟨y, 0 :: tab (fun k => rbAt row (k + 1)) (row.length - 1), rfl, SqL.of upd_same, Nat.succ_pos _, fun mx hm hmax => ?_⟩
    refine ⟨_, _, rfl, rfl, ?_⟩
    have m0 := hmax 0 (by simp)
    have mc : mx ≤ (c : Int) + 1 := by
      rcases List.mem_cons.mp hm with e | e
      · omega
      · unfold tab at e
        obtain ⟨i, hi, rfl⟩ := List.mem_map.mp e
        have b1 := bl_le (hc (row.length - 1 - (i + 1)))
        unfold rbAt
        rw [Int.fdiv_eq_ediv_of_nonneg _ (by omega)]
        refine Int.ediv_le_of_le_mul (by omega) ?_
        have := Int.mul_le_mul_of_nonneg_left (show (1 : Int) ≤ ((i + 1 : Nat) : Int) by omega) (show 0 ≤ (c : Int) + 1 by omega)
        omega
    have er : (2 : Int) + mx = (((2 + mx).toNat : Nat) : Int) := by omega
    show Q (.int (2 + mx)) _
    rw [er]
    refine q _ _ s5 (by omega) (by omega) fun j j1 j2 => ?_
    have := hmax (rbAt row j) (List.mem_cons_of_mem _ (List.mem_map.mpr ⟨j - 1, List.mem_range.mpr (by omega), by show rbAt row (j - 1 + 1) = _; rw [show j - 1 + 1 = j by omega]⟩))
    omega
end
end Un
namespace Un
open PySem L2 TL
section
variable {P : Program} {w : World} {K : PySem.W.Frag} {mg : Str → Option Value} {base : Heap}
/-! ### cancelled -/
abbrev sCancelled : Stmt := top 27
/-- the looks of the loop end: k in vain, then one that gives l and r -/
structure Looks (one other : SerM.Po) (bits k : Nat) (l r : SerM.Po) : Prop where
  ok : SerM.look (2 ^ (bits * 2 ^ k - 1)) one other = some (l, r)
  no : ∀ j, j < k → SerM.look (2 ^ (bits * 2 ^ j - 1)) one other = none
  sm : bits * 2 ^ k ≤ 9000
def spCanc (K : PySem.W.Frag) : Sp := fun vs H Q _ => ∃ (a b : Addr) (one other : SerM.Po) (c : Nat), vs = [.ref a, .ref b] ∧ SqL K H a (iv one) ∧ SqL K H b (iv other) ∧ 1 ≤ one.length ∧ one.length ≤ 100 ∧ other.length ≤ 100 ∧ SerM.ev other 0 = 1 ∧
  (∀ i, (SerM.co one i).natAbs < 2 ^ c) ∧ (∀ i, (SerM.co other i).natAbs < 2 ^ c) ∧ c ≤ 9000 ∧
  ∀ r1 r2 : Nat, 2 ≤ r1 → 2 ≤ r2 → r1 ≤ c + 3 → r2 ≤ c + 3 → (∀ j, 1 ≤ j → j ≤ one.length - 1 → rbAt one j ≤ (r1 : Int) - 2) → (∀ j, 1 ≤ j → j ≤ other.length - 1 → rbAt other j ≤ (r2 : Int) - 2) →
    ∃ (k : Nat) (l r : SerM.Po), Looks one other (min r1 r2 + 32) k l r ∧ ∀ (t x y : Addr) (H' : Hp), Same H H' → H' t = some (.tup [.ref x, .ref y]) → H' x = some (.lst (iv l)) → H' y = some (.lst (iv r)) → H x = none → H y = none → Q (.ref t) H'
theorem scCancelled : FnScope ["one", "other", "bits", "divisor", "factor", "left", "right"] ["one", "other"] (defScope sCancelled) := ⟨rfl, rfl, rfl, by decide +kernel, rfl, by decide +kernel, by decide +kernel⟩
theorem ok_canc {f g1 g2 g3 g4 g5 : Addr} {fd d1 d2 d3 d4 d5 : FuncData} (F : Fun K "cancelled" "cancelled" sCancelled f fd) (T : PolT K w mg) (GR : Df P w K mg base 1 g1 d1 "root_bits" ["row"] (spRootBits K)) (GV : Df P w K mg base 1 g2 d2 "value_at" ["row", "bits"] (spValueAt K)) (GD : Df P w K mg base 1 g3 d3 "digits_of" ["number", "bits"] (spDigitsOf K))
    (GB : Df P w K mg base 1 g4 d4 "begun_with_one" ["row"] (spBegun K)) (GQ : Df P w K mg base 2 g5 d5 "quotient_of" ["row", "factor"] (spQuo K)) : FnOk P w K mg base CX0 3 f fd ["one", "other"] (spCanc K) := by
  refine F.ok scCancelled (fun vs H Q E h => ?_) (fun cdv A outer s H vs Q E hr h => ?_)
  · obtain ⟨a, b, one, other, c, rfl, _⟩ := h
    rfl
  obtain ⟨a, b, one, other, c, rfl, Ra, Rb, l1, l2, l3, o1, hc1, hc2, c9, q⟩ := h
  obtain ⟨tS, mspare⟩ := T.spare
  refine ⟨_, (pss_cons (ps_set (i := 2) scCancelled.nd rfl (by first | exact Or.inl rfl | exact Or.inr rfl) (pe_op op_add (pe_callB (call_min2 rfl) (by rfl) T.min (by decide +kernel) (pa_cons (pe_call GR.ok (hr.mono (by decide)) (by rfl) GR.m GR.kp GR.b .nil pass0 (pa_cons (pv 0) pa_nil)) (pa_cons (pe_call GR.ok (hr.mono (by decide)) (by rfl) GR.m GR.kp GR.b .nil pass0 (pa_cons (pv 1) pa_nil)) pa_nil))) (pe_glob (v := .int 32) (by rfl) mspare ⟨_, rfl⟩)))
 (pss_one (ps_while PassesOwn.never (pt_val pe_bl)
 (pss_cons (ps_set (i := 3) scCancelled.nd rfl (by first | exact Or.inl rfl | exact Or.inr rfl) (pe_callBfun cr_gcd (by rfl) T.gcd (pa_cons (pe_call GV.ok (hr.mono (by decide)) (by rfl) GV.m GV.kp GV.b .nil pass0 (pa_cons (pv 0) (pa_cons (pv 2) pa_nil))) (pa_cons (pe_call GV.ok (hr.mono (by decide)) (by rfl) GV.m GV.kp GV.b .nil pass0 (pa_cons (pv 1) (pa_cons (pv 2) pa_nil))) pa_nil))))
 (pss_cons (ps_set (i := 4) scCancelled.nd rfl (by first | exact Or.inl rfl | exact Or.inr rfl) (pe_call GB.ok (hr.mono (by decide)) (by rfl) GB.m GB.kp GB.b .nil pass0 (pa_cons (pe_call GD.ok (hr.mono (by decide)) (by rfl) GD.m GD.kp GD.b .nil pass0 (pa_cons (pv 3) (pa_cons (pv 2) pa_nil))) pa_nil)))
 (pss_cons (ps_if (pt_cmpR op_notN (pv 4) pe_non (nomark _))
 (pss_cons (ps_set (i := 5) scCancelled.nd rfl (by first | exact Or.inl rfl | exact Or.inr rfl) (pe_call GQ.ok (hr.mono (by decide)) (by rfl) GQ.m GQ.kp GQ.b .nil pass0 (pa_cons (pv 0) (pa_cons (pv 4) pa_nil))))
 (pss_cons (ps_set (i := 6) scCancelled.nd rfl (by first | exact Or.inl rfl | exact Or.inr rfl) (pe_call GQ.ok (hr.mono (by decide)) (by rfl) GQ.m GQ.kp GQ.b .nil pass0 (pa_cons (pv 1) (pa_cons (pv 4) pa_nil))))
 (pss_one (ps_if (PW.pt (pw_and (pt_cmpR op_notN (pv 5) pe_non (nomark _)) (pw_and1 (pt_cmpR op_notN (pv 6) pe_non (nomark _)))))
 (pss_one (ps_ret (pe_tup (pa_cons (pv 5) (pa_cons (pv 6) pa_nil)))))
 pss_nil))))
 pss_nil)
 (pss_one (ps_set (i := 2) scCancelled.nd rfl (by first | exact Or.inl rfl | exact Or.inr rfl) (pe_op op_mul pe_int (pv 2)))))))))), ?_⟩
  have o0 : 1 ≤ other.length := Nat.pos_of_ne_zero fun z => by
    rw [List.length_eq_zero_iff.mp z] at o1; exact absurd o1 (by decide)
  refine ⟨_, rfl, a, one, c, rfl, Ra, l1, by omega, hc1, fun r1 H1 s1 r12 r1c hr1 => ?_⟩
  refine ⟨_, rfl, b, other, c, rfl, s1.seq Rb, o0, by omega, hc2, fun r2 H2 s2' r22 r2c hr2 => ?_⟩
  have s2 := s1.trans s2'
  obtain ⟨k, l, r, LK, qq⟩ := q r1 r2 r12 r22 r1c r2c hr1 hr2
  refine ⟨_, _, rfl, _, _, rfl, rfl, ?_⟩
  have eb : (if (r2 : Int) < (r1 : Int) then (r2 : Int) else (r1 : Int)) + 32 = ((min r1 r2 + 32 : Nat) : Int) := by split <;> omega
  generalize hb0 : min r1 r2 + 32 = b0 at eb LK
  have b02 : 34 ≤ b0 := by omega
  refine ⟨fun m σ H3 => ∃ (j : Nat) (v3 v4 v5 v6 : Option V), σ = [some (.ref a), some (.ref b), some (.int ((b0 * 2 ^ j : Nat) : Int)), v3, v4, v5, v6] ∧ Same H H3 ∧ j ≤ k ∧ m = k - j,
    ⟨_, 0, none, none, none, none, congrArg (fun z => [some (V.ref a), some (.ref b), some (V.int z), none, none, none, none]) (eb.trans (by simp)), s2, Nat.zero_le _, rfl⟩, ?_⟩
  rintro m σ H3 ⟨j, v3, v4, v5, v6, rfl, s3, hj, rfl⟩
  refine ⟨_, rfl, iteT ⟨fun σ' H' => ∃ m', m' < k - j ∧ ∃ (j : Nat) (v3 v4 v5 v6 : Option V), σ' = [some (.ref a), some (.ref b), some (.int ((b0 * 2 ^ j : Nat) : Int)), v3, v4, v5, v6] ∧ Same H H' ∧ j ≤ k ∧ m' = k - j, fun σ' H' h => h, ?_⟩⟩
  have pj : b0 * 2 ^ j ≤ 9000 := Nat.le_trans (Nat.mul_le_mul_left _ (Nat.pow_le_pow_right (by decide) hj)) LK.sm
  have pj0 : b0 ≤ b0 * 2 ^ j := Nat.le_mul_of_pos_right _ (Nat.pow_pos (by decide))
  have enext : b0 * 2 ^ (j + 1) = 2 * (b0 * 2 ^ j) := by rw [Nat.pow_succ, ← Nat.mul_assoc, Nat.mul_comm]
  have lk : j = k → SerM.look (2 ^ (b0 * 2 ^ j - 1)) one other = some (l, r) := fun e => by rw [e]; exact LK.ok
  have lno : j < k → SerM.look (2 ^ (b0 * 2 ^ j - 1)) one other = none := LK.no j
  generalize hB : b0 * 2 ^ j = Bt at *
  obtain ⟨n, rfl⟩ : ∃ n, Bt = n + 1 := ⟨Bt - 1, by omega⟩
  have m1 : (n + 2) * one.length ≤ 9001 * 100 := Nat.mul_le_mul (by omega) l2
  have m2 : (n + 2) * other.length ≤ 9001 * 100 := Nat.mul_le_mul (by omega) l3
  refine ⟨_, rfl, _, rfl, a, one, n + 1, c, rfl, s3.seq Ra, hc1, (by show c + (n + 2) * one.length + (n + 1) + 2 ≤ 134217728; omega), fun H4 s4 => ?_⟩
  refine ⟨_, rfl, _, rfl, b, other, n + 1, c, rfl, (s3.trans s4).seq Rb, hc2, (by show c + (n + 2) * other.length + (n + 1) + 2 ≤ 134217728; omega), fun H5 s5 => ?_⟩
  refine ⟨_, _, rfl, ?_⟩
  rw [Nat.add_sub_cancel] at lk lno
  have eY : ((2 ^ n : Nat) : Int) = 2 ^ n := by simp
  have eX : 2 * ((2 ^ n : Nat) : Int) = 2 ^ (n + 1) := by rw [eY, Int.pow_succ, Int.mul_comm]
  have godd := SerM.gcd_odd (Y := 2 ^ n) (one := one) o1
  rw [eX] at godd
  have hlook : SerM.look (2 ^ n) one other = match SerM.begun (SerM.digs (2 ^ n) (Int.gcd (SerM.ev one (2 ^ (n + 1))) (SerM.ev other (2 ^ (n + 1)))) (Int.gcd (SerM.ev one (2 ^ (n + 1))) (SerM.ev other (2 ^ (n + 1))))) with
      | none => none
      | some F => match SerM.quo one F, SerM.quo other F with
        | some l, some r => some (l, r)
        | _, _ => none := by
    unfold SerM.look
    rw [eX, eY]
    all_goals rfl
  have hn1 : 1 ≤ n := by omega
  have hDb : Int.gcd (SerM.ev one (2 ^ (n + 1))) (SerM.ev other (2 ^ (n + 1))) < 2 ^ (c + (n + 1 + 1) * other.length + 1) := by
    have h1 := ev_bits (n := n + 1) hc2
    have h0 : (SerM.ev other (2 ^ (n + 1))).natAbs ≠ 0 := fun z => by
      have e0 : SerM.ev other (2 ^ (n + 1)) = 0 := by omega
      obtain ⟨u, hu⟩ := SerM.odd_val o1 (2 ^ (n + 1))
      rw [e0, ← eX, Int.mul_assoc] at hu
      omega
    have h2 : Int.gcd (SerM.ev one (2 ^ (n + 1))) (SerM.ev other (2 ^ (n + 1))) ≤ (SerM.ev other (2 ^ (n + 1))).natAbs := Nat.gcd_le_right _ (Nat.pos_of_ne_zero h0)
    omega
  have eN : ∀ u v : Int, Nat.gcd u.natAbs v.natAbs = Int.gcd u v := fun u v => rfl
  rw [eN]
  generalize Int.gcd (SerM.ev one (2 ^ (n + 1))) (SerM.ev other (2 ^ (n + 1))) = D at godd hlook hDb ⊢
  have hY2 : (2 : Int) ≤ 2 ^ n := by
    have := Nat.pow_le_pow_right (show 0 < 2 by decide) hn1
    rw [← eY]; omega
  have pe := SerM.digs_ev hY2 D (D : Int) (by omega)
  have pr := SerM.digs_rng hY2 D (D : Int)
  have pl := digs_len hY2 _ D (D : Int) (by simpa using hDb)
  have m3 : (n + 1 + 1) * other.length ≤ 9001 * 100 := m2
  have s35 := (s3.trans s4).trans s5
  refine ⟨_, rfl, _, rfl, (D : Int), n, _, rfl, hn1, by omega, by simpa using hDb, by omega, fun y H6 s6 hy hy6 => ?_⟩
  rw [show ((D : Int)).natAbs = D from Int.natAbs_natCast D] at hy6
  generalize SerM.digs (2 ^ n) D (D : Int) = p at pe pr pl hy6 hlook
  have p0 : SerM.co p 0 ≠ 0 := fun z => by
    obtain ⟨u, hu⟩ := SerM.ev_mod (p := p) (2 * (2 ^ n))
    rw [pe, z, Int.mul_assoc] at hu
    omega
  have pb : ∀ i, (SerM.co p i).natAbs < 2 ^ (n + 1) := fun i => by
    have h1 := pr i
    rw [← eY] at h1
    have h2 := Nat.pow_pos (n := n) (show 0 < 2 by decide)
    rw [Nat.pow_succ]; omega
  have next : SerM.look (2 ^ n) one other = none → ∀ (v3 v4 v5 v6 : Option V) (H' : Hp), Same H H' → ∃ m', m' < k - j ∧ ∃ (j' : Nat) (w3 w4 w5 w6 : Option V), [some (V.ref a), some (.ref b), some (.int (2 * ((n + 1 : Nat) : Int))), v3, v4, v5, v6] = [some (.ref a), some (.ref b), some (.int ((b0 * 2 ^ j' : Nat) : Int)), w3, w4, w5, w6] ∧ Same H H' ∧ j' ≤ k ∧ m' = k - j' := fun hn v3 v4 v5 v6 H' sH => by
    have jk : j < k := Nat.lt_of_le_of_ne hj fun e => by rw [lk e] at hn; cases hn
    refine ⟨k - (j + 1), by omega, j + 1, v3, v4, v5, v6, ?_, sH, by omega, rfl⟩
    rw [enext, Int.natCast_mul]; rfl
  refine ⟨y, p, n + 1, rfl, SqL.of hy6, by omega, p0, pb, by omega, fun hF H7 s7 => ?_, fun Fc hF fa H7 s7 hfa hfa7 => ?_⟩
  · have hnone : SerM.look (2 ^ n) one other = none := by rw [hlook, hF]
    refine ⟨_, rfl, rfl, _, rfl, ?_⟩
    rw [decide_eq_true rfl]
    refine iteF ⟨_, rfl, _, _, rfl, rfl, ?_⟩
    exact ⟨.inl ⟨by decide, by decide⟩, next hnone _ _ _ _ H7 ((s35.trans s6).trans s7)⟩
  · rw [hF] at hlook
    obtain ⟨c1, c2, c3⟩ := SerM.begun_some p0 hF
    have Fb : ∀ i, (SerM.co Fc i).natAbs < 2 ^ (n + 1) := fun i => by
      have h1 := pb i
      rw [c1, Int.natAbs_mul] at h1
      have := Nat.le_mul_of_pos_left (SerM.co Fc i).natAbs (show 0 < (SerM.co p 0).natAbs by omega)
      omega
    have F1 : 1 ≤ Fc.length := Nat.pos_of_ne_zero fun z => by rw [List.length_eq_zero_iff.mp z, SerM.co_nil] at c2; omega
    have s37 := (s35.trans s6).trans s7
    refine ⟨_, rfl, rfl, _, rfl, ?_⟩
    rw [decide_eq_false (fun z => by cases z)]
    refine iteT ?_
    refine ⟨_, rfl, _, rfl, a, fa, one, Fc, c, n + 1, rfl, s37.seq Ra, SqL.of hfa7, by omega, F1, by omega, hc1, Fb, by omega, by omega, fun hq H8 s8 => ?_, fun ql hq x H8 s8 hx hx8 => ?_⟩
    · have hnone : SerM.look (2 ^ n) one other = none := by rw [hlook]; simp only [hq]
      refine ⟨_, rfl, _, rfl, b, fa, other, Fc, c, n + 1, rfl, (s37.trans s8).seq Rb, SqL.of (s8 _ _ hfa7), by omega, F1, by omega, hc2, Fb, by omega, by omega, fun hq2 H9 s9 => ?_, fun qr hq2 z H9 s9 hz hz9 => ?_⟩
      · refine ⟨_, rfl, rfl, _, rfl, ?_⟩
        rw [decide_eq_true rfl]
        exact iteF ⟨_, rfl, _, _, rfl, rfl, .inl ⟨by decide, by decide⟩, next hnone _ _ _ _ H9 ((s37.trans s8).trans s9)⟩
      · refine ⟨_, rfl, rfl, _, rfl, ?_⟩
        rw [decide_eq_true rfl]
        exact iteF ⟨_, rfl, _, _, rfl, rfl, .inl ⟨by decide, by decide⟩, next hnone _ _ _ _ H9 ((s37.trans s8).trans s9)⟩
    · refine ⟨_, rfl, _, rfl, b, fa, other, Fc, c, n + 1, rfl, (s37.trans s8).seq Rb, SqL.of (s8 _ _ hfa7), by omega, F1, by omega, hc2, Fb, by omega, by omega, fun hq2 H9 s9 => ?_, fun qr hq2 z H9 s9 hz hz9 => ?_⟩
      · have hnone : SerM.look (2 ^ n) one other = none := by rw [hlook]; simp only [hq, hq2]
        refine ⟨_, rfl, rfl, _, rfl, ?_⟩
        rw [decide_eq_false (fun z => by cases z)]
        refine iteT ⟨_, rfl, rfl, _, rfl, ?_⟩
        rw [decide_eq_true rfl]
        exact iteF ⟨_, rfl, _, _, rfl, rfl, .inl ⟨by decide, by decide⟩, next hnone _ _ _ _ H9 ((s37.trans s8).trans s9)⟩
      · have hsome : SerM.look (2 ^ n) one other = some (ql, qr) := by rw [hlook]; simp only [hq, hq2]
        have jk : j = k := by
          apply Classical.byContradiction
          intro z
          rw [lno (by omega)] at hsome
          cases hsome
        rw [lk jk] at hsome
        obtain ⟨rfl, rfl⟩ : l = ql ∧ r = qr := by simpa using hsome
        refine ⟨_, rfl, rfl, _, rfl, ?_⟩
        rw [decide_eq_false (fun z => by cases z)]
        refine iteT ⟨_, rfl, rfl, _, rfl, ?_⟩
        rw [decide_eq_false (fun z => by cases z)]
        refine iteT ⟨_, rfl, _, rfl, (by show 2 ≤ sizeLine; decide), fun t ht => ?_⟩
        have s9' := ((s37.trans s8).trans s9)
        exact qq t x z _ (s9'.trans (same_upd ht _)) upd_same (by rw [upd_ne (ne_of_none (s9 _ _ hx8) ht)]; exact s9 _ _ hx8) (by rw [upd_ne (ne_of_none hz9 ht)]; exact hz9) (s37.free hx) ((s37.trans s8).free hz)
end
end Un
namespace Un
open PySem L2 TL
section
variable {P : Program} {w : World} {K : PySem.W.Frag} {mg : Str → Option Value} {base : Heap}
/-! ### product_of -/
theorem mul_snoc (p : SerM.Po) (t : Int) (F : SerM.Po) (i : Nat) : SerM.co (SerM.mul (p ++ [t]) F) i = SerM.co (SerM.mul p F) i + (if p.length ≤ i then t * SerM.co F (i - p.length) else 0) := by
  have e : ∀ x, SerM.ev (SerM.mul (p ++ [t]) F) x = SerM.ev (SerM.add (SerM.mul p F) (SerM.zp p.length (SerM.smul t F))) x := fun x => by
    rw [SerM.ev_mul, SerM.ev_add, SerM.ev_mul, SerM.ev_zp, SerM.ev_smul, SerM.ev_app]
    show (SerM.ev p x + x ^ p.length * (t + x * 0)) * SerM.ev F x = _
    grind
  rw [SerM.co_of_ev 0 (fun x _ => e x), SerM.co_add]
  congr 1
  by_cases h : p.length ≤ i
  · rw [if_pos h]
    obtain ⟨j, rfl⟩ : ∃ j, i = p.length + j := ⟨i - p.length, by omega⟩
    rw [SerM.co_zp, SerM.co_smul]; congr 2; omega
  · rw [if_neg h]
    have : ∀ (k i : Nat) (q : SerM.Po), i < k → SerM.co (SerM.zp k q) i = 0 := fun k => by
      induction k with
      | zero => intro i q h; omega
      | succ k ih =>
        intro i q h
        cases i with
        | zero => rfl
        | succ i => exact ih i q (by omega)
    exact this _ _ _ (by omega)
def pP (one other : SerM.Po) (k i : Nat) : Int := SerM.co (SerM.mul (one.take k) other) i
theorem pP_step {one other : SerM.Po} {k : Nat} (hk : k < one.length) (i : Nat) : pP one other (k + 1) i = pP one other k i + (if k ≤ i then SerM.co one k * SerM.co other (i - k) else 0) := by
  unfold pP
  have e : one.take (k + 1) = one.take k ++ [SerM.co one k] := by
    rw [List.take_add_one, List.getElem?_eq_getElem hk]
    unfold SerM.co
    rw [List.getD_eq_getElem?_getD, List.getElem?_eq_getElem hk]; rfl
  rw [e, mul_snoc, show (one.take k).length = k by rw [List.length_take]; omega]
end
end Un
namespace Un
open PySem L2 TL
section
variable {P : Program} {w : World} {K : PySem.W.Frag} {mg : Str → Option Value} {base : Heap}
/-! ### sum_of -/
end
end Un
namespace Un
open PySem L2 TL
section
variable {P : Program} {w : World} {K : PySem.W.Frag} {mg : Str → Option Value} {base : Heap}
/-! ### reduced -/
abbrev sReduced : Stmt := top 28
/-- what is asked of a top and a bottom, and that u, v is their reduced form -/
structure RedIn (p q : SerM.Po) (c : Nat) : Prop where
  l1 : p.length ≤ 90
  l2 : q.length ≤ 90
  c1 : ∀ i, (SerM.co p i).natAbs < 2 ^ c
  c2 : ∀ i, (SerM.co q i).natAbs < 2 ^ c
  c9 : c ≤ 8900
  sm : ∃ P Q A m A2 m2 Bd, SerM.Sml p q P Q A m A2 m2 Bd ∧ Bd ≤ 4490
def spReduced (K : PySem.W.Frag) : Sp := fun vs H Q _ => ∃ (x y : V) (p q : SerM.Po) (c : Nat), vs = [x, y] ∧ RowV K H x p ∧ RowV K H y q ∧ RedIn p q c ∧
  ∀ (u v : SerM.Po), SerM.Red p q u v → ∀ (t a b : Addr) (H' : Hp), Same H H' → H' t = some (.tup [.ref a, .ref b]) → H' a = some (.lst (iv u)) → H' b = some (.lst (iv v)) → H a = none → H b = none → Q (.ref t) H'
theorem scReduced : FnScope ["top", "bottom", "upper", "lower", "ahead", "left", "right"] ["top", "bottom"] (defScope sReduced) := ⟨rfl, rfl, rfl, by decide +kernel, rfl, by decide +kernel, by decide +kernel⟩
theorem rep_one (k : Nat) : (List.replicate k [V.int 0]).flatten = List.replicate k (V.int 0) := by
  induction k with
  | zero => rfl
  | succ k ih => rw [List.replicate_succ, List.flatten_cons, ih]; rfl
theorem iv_zp (k : Nat) (l : SerM.Po) : iv (SerM.zp k l) = List.replicate k (V.int 0) ++ iv l := by
  induction k with
  | zero => rfl
  | succ k ih =>
    show V.int 0 :: iv (SerM.zp k l) = _
    rw [ih]; rfl
theorem zp_len (k : Nat) (q : SerM.Po) : (SerM.zp k q).length = k + q.length := by
  induction k with
  | zero => show q.length = _; omega
  | succ k ih => show (SerM.zp k q).length + 1 = _; omega
theorem zp_of {p : SerM.Po} {k : Nat} (hk : k ≤ p.length) (h : ∀ i, i < k → SerM.co p i = 0) : p = SerM.zp k (p.drop k) := by
  refine SerM.co_ext ?_ fun i => ?_
  · rw [zp_len, List.length_drop]; omega
  · by_cases lt : i < k
    · have z : ∀ (k i : Nat) (q : SerM.Po), i < k → SerM.co (SerM.zp k q) i = 0 := fun k => by
        induction k with
        | zero => intro i q h; omega
        | succ k ih =>
          intro i q h
          cases i with
          | zero => rfl
          | succ i => exact ih i q (by omega)
      rw [h i lt, z k i _ lt]
    · obtain ⟨j, rfl⟩ : ∃ j, i = k + j := ⟨i - k, by omega⟩
      rw [SerM.co_zp, SerM.co_drop]
theorem rb_lead {row : SerM.Po} (h : SerM.Tm row) (ne : row ≠ []) {r B : Nat} (r2 : 2 ≤ r) (hB : r + 2 ≤ B) (hr : ∀ j, 1 ≤ j → j ≤ row.length - 1 → rbAt row j ≤ (r : Int) - 2) : SerM.Dom row (row.length - 1) (2 ^ B) := by
  have l := SerM.tm_lead h ne
  refine SerM.roots_dom (rb := r) l (fun j j1 j2 => ?_) r2 hB
  have := hr j j1 j2
  unfold rbAt at this
  rwa [l.at_] at this
theorem RowV.same {H H' : Hp} {x : V} {p : SerM.Po} (s : Same H H') (h : RowV K H x p) : RowV K H' x p := by
  obtain ⟨a, rfl, h | h⟩ := h
  · exact ⟨a, rfl, .inl (s.seq h)⟩
  · refine ⟨a, rfl, .inr ?_⟩
    rcases h with (h | ⟨o, h⟩) | h
    · exact .inl (.inl (s _ _ h))
    · exact .inl (.inr ⟨o, s _ _ h⟩)
    · exact .inr h
theorem ok_reduced {f g1 g2 g3 : Addr} {fd d1 d2 d3 : FuncData} (F : Fun K "reduced" "reduced" sReduced f fd) (T : PolT K w mg) (GT : Df P w K mg base 1 g1 d1 "trimmed" ["row"] (spTrimmed K)) (GO : Df P w K mg base 1 g2 d2 "order_of" ["row"] (spOrderOf K)) (GC : Df P w K mg base 3 g3 d3 "cancelled" ["one", "other"] (spCanc K)) : FnOk P w K mg base CX0 4 f fd ["top", "bottom"] (spReduced K) := by
  refine F.ok scReduced (fun vs H Q E h => ?_) (fun cdv A outer s H vs Q E hr h => ?_)
  · obtain ⟨x, y, p, q, c, rfl, _⟩ := h
    rfl
  obtain ⟨x, y, p, q, c, rfl, Rx, Ry, I, qq⟩ := h
  obtain ⟨P', Q', A', m', A2, m2, Bd, S, hBd⟩ := I.sm
  have hsz : 1000000 < sizeLine := by decide
  refine ⟨_, (pss_cons (ps_set (i := 2) scReduced.nd rfl (by first | exact Or.inl rfl | exact Or.inr rfl) (pe_call GT.ok (hr.mono (by decide)) (by rfl) GT.m GT.kp GT.b .nil pass0 (pa_cons (pv 0) pa_nil)))
 (pss_cons (ps_set (i := 3) scReduced.nd rfl (by first | exact Or.inl rfl | exact Or.inr rfl) (pe_call GT.ok (hr.mono (by decide)) (by rfl) GT.m GT.kp GT.b .nil pass0 (pa_cons (pv 1) pa_nil)))
 (pss_cons (ps_if (pt_not (pt_truth (pv 2) (by intro _; rfl)))
 (pss_one (ps_ret (pe_tup (pa_cons (pe_lst pa_nil) (pa_cons (pe_lst (pa_cons pe_int pa_nil)) pa_nil)))))
 pss_nil)
 (pss_cons (ps_set (i := 4) scReduced.nd rfl (by first | exact Or.inl rfl | exact Or.inr rfl) (pe_call GO.ok (hr.mono (by decide)) (by rfl) GO.m GO.kp GO.b .nil pass0 (pa_cons (pv 2) pa_nil)))
 (pss_cons (ps_if (PW.pt (pw_or (pt_cmpR op_eq (pe_callB call_len_seq (by rfl) T.len PySem.boot_len (pa_cons (pv 2) pa_nil)) (pe_op op_add (pv 4) pe_int) (nomark _)) (pw_or1 (pt_cmpR op_eq (pe_callB call_len_seq (by rfl) T.len PySem.boot_len (pa_cons (pv 3) pa_nil)) pe_int (nomark _)))))
 (pss_one (ps_ret (pe_tup (pa_cons (pv 2) (pa_cons (pv 3) pa_nil)))))
 pss_nil)
 (pss_cons (ps_asg (pe_call GC.ok (hr.mono (by decide)) (by rfl) GC.m GC.kp GC.b .nil pass0 (pa_cons (pe_slice sl_list (pv 2) (po_some (pv 4)) po_none) (pa_cons (pv 3) pa_nil))) (pg_tup (by rfl) (pgs_cons (pg_name (i := 5) scReduced.nd rfl (by first | exact Or.inl rfl | exact Or.inr rfl)) (pgs_cons (pg_name (i := 6) scReduced.nd rfl (by first | exact Or.inl rfl | exact Or.inr rfl)) pgs_nil))))
 (pss_one (ps_ret (pe_tup (pa_cons (pe_op op_cat (pe_op op_rep (pe_lst (pa_cons pe_int pa_nil)) (pv 4)) (pv 5)) (pa_cons (pv 6) pa_nil))))))))))), ?_⟩
  have I1 := I.l1
  have I2 := I.l2
  refine ⟨x, rfl, x, p, rfl, Rx, by omega, fun b1 H1 s1 hb1 h1 => ?_⟩
  have Ry1 : RowV K H1 y q := Ry.same s1
  refine ⟨y, rfl, y, q, rfl, Ry1, by omega, fun b2 H2 s2 hb2 h2 => ?_⟩
  have s12 := s1.trans s2
  have h1' := s2 _ _ h1
  have hb2' : H b2 = none := s1.free hb2
  have tl1 := SerM.trim_len p
  have tl2 := SerM.trim_len q
  refine ⟨_, rfl, _, .inl ⟨_, SqL.of h1', rfl⟩, ?_⟩
  refine ite2 (fun ce => ?_) (fun ce => ?_)
  · have e0 : SerM.trim p = [] := by
      cases e : SerM.trim p with
      | nil => rfl
      | cons z zs => rw [e] at ce; cases ce
    refine ⟨(by show 0 ≤ sizeLine; decide), fun l hl => ⟨(by show 1 ≤ sizeLine; decide), fun l2 hl2 => ⟨(by show 2 ≤ sizeLine; decide), fun t ht => ?_⟩⟩⟩
    have s3 := ((s12.trans (same_upd hl (.lst []))).trans (same_upd hl2 (.lst [V.int 1])))
    refine qq [] [1] (SerM.red_nil e0) t l l2 _ (s3.trans (same_upd ht _)) upd_same ?_ ?_ (s12.free hl) ((s12.trans (same_upd hl (.lst []))).free hl2)
    · have n1 : l ≠ l2 := ne_of_none upd_same hl2
      rw [upd_ne (ne_of_none (by rw [upd_ne n1, upd_same]) ht), upd_ne n1, upd_same]; rfl
    · rw [upd_ne (ne_of_none upd_same ht), upd_same]; rfl
  have ne : SerM.trim p ≠ [] := fun z => by rw [z] at ce; exact ce rfl
  refine ⟨_, rfl, b1, SerM.trim p, rfl, SqL.of h1', fun k H3 s3 hk kn kz => ?_, fun hz => absurd (hz _) (by
    have l := SerM.tm_lead (SerM.trim_tm p) ne
    rw [l.at_]; exact l.ne)⟩
  have s13 := s12.trans s3
  have h13 := s3 _ _ h1'
  have h23 := s3 _ _ h2
  have er := zp_of (Nat.le_of_lt hk) kz
  have rn : (SerM.trim p).drop k ≠ [] := fun z => by
    have := congrArg List.length z
    rw [List.length_drop] at this
    exact absurd this (by show _ ≠ 0; omega)
  have rt : SerM.Tm ((SerM.trim p).drop k) := fun n2 => by
    rw [List.getLast_drop]
    exact SerM.trim_tm p ne
  have plain : SerM.Red p q (SerM.trim p) (SerM.trim q) → ∀ (H4 : Hp), H4 = H3 → tRet (tTup (tCons (tVar 2) (tCons (tVar 3) tNil))) { nx := fun x H' => Q V.non H', rt := Q } [some x, some y, some (.ref b1), some (.ref b2), some (.int (k : Int)), none, none] H4 := fun R H4 e4 => by
    subst e4
    refine ⟨_, rfl, _, rfl, (by show 2 ≤ sizeLine; decide), fun t ht => ?_⟩
    exact qq _ _ R t b1 b2 _ (s13.trans (same_upd ht _)) upd_same (by rw [upd_ne (ne_of_none h13 ht)]; exact h13) (by rw [upd_ne (ne_of_none h23 ht)]; exact h23) hb1 hb2'
  refine ⟨_, rfl, b1, _, rfl, .inl (SqL.of h13), _, rfl, _, _, rfl, rfl, rfl, _, rfl, ?_⟩
  rw [dec_int, List.length_map]
  refine ite2 (fun c1 => ?_) (fun c1 => ?_)
  · have e1 : (SerM.trim p).length = k + 1 := by have := eq_of_beq c1; omega
    obtain ⟨a, ea⟩ : ∃ a, (SerM.trim p).drop k = [a] := by
      have : ((SerM.trim p).drop k).length = 1 := by rw [List.length_drop]; omega
      match (SerM.trim p).drop k, this with
      | [a], _ => exact ⟨a, rfl⟩
    rw [ea] at er
    exact plain (SerM.red_mono S.b1 (fun z => kn (by rw [er]; exact (SerM.co_zp k [a] 0).trans (by rw [z]; rfl))) er) _ rfl
  refine ⟨_, rfl, b2, _, rfl, .inl (SqL.of h23), rfl, _, rfl, ?_⟩
  rw [dec_int, List.length_map]
  refine ite2 (fun c2 => ?_) (fun c2 => ?_)
  · have e1 : (SerM.trim q).length = 1 := by have := eq_of_beq c2; omega
    exact plain (SerM.red_plain S.b1 e1) _ rfl
  refine ⟨_, rfl, _, rfl, _, rfl, b1, _, rfl, SqL.of h13, fun d hd => ?_⟩
  have s4 := s13.trans (same_upd hd (.lst (cutV (iv (SerM.trim p)) (some (k : Int)) none)))
  have ecut : cutV (iv (SerM.trim p)) (some (k : Int)) none = iv ((SerM.trim p).drop k) := by
    unfold cutV
    have e1 : HT.sIx (iv (SerM.trim p)).length 0 (some (k : Int)) = k := by rw [HT.sIx_nat, List.length_map]; omega
    have e2 : HT.sIx (iv (SerM.trim p)).length (iv (SerM.trim p)).length none = (iv (SerM.trim p)).length := rfl
    rw [e1, e2, List.take_of_length_le (by rw [List.length_drop]; omega)]
    exact List.map_drop.symm
  rw [ecut] at s4 ⊢
  have hd4 : upd H3 d (.lst (iv ((SerM.trim p).drop k))) d = some (.lst (iv ((SerM.trim p).drop k))) := upd_same
  have h24 : upd H3 d (.lst (iv ((SerM.trim p).drop k))) b2 = some (.lst (iv (SerM.trim q))) := by rw [upd_ne (ne_of_none h23 hd)]; exact h23
  generalize upd H3 d (.lst (iv ((SerM.trim p).drop k))) = H4 at s4 hd4 h24 ⊢
  have o1 : SerM.ev (SerM.trim q) 0 = 1 := by rw [SerM.trim_ev]; exact S.b1
  have on : SerM.trim q ≠ [] := fun z => by rw [z] at o1; exact absurd o1 (by decide)
  refine ⟨_, rfl, d, b2, (SerM.trim p).drop k, SerM.trim q, c, rfl, SqL.of hd4, SqL.of h24, by rw [List.length_drop]; omega, by rw [List.length_drop]; omega, by omega, o1, fun i => by rw [SerM.co_drop, SerM.trim_co]; exact I.c1 _, fun i => by rw [SerM.trim_co]; exact I.c2 _, by have := I.c9; omega, fun r1 r2 r12 r22 r1c r2c hr1 hr2 => ?_⟩
  have hdom : ∃ n, ∀ B, min r1 r2 + 32 ≤ B → SerM.Dom ((SerM.trim p).drop k) n (2 ^ B) ∨ SerM.Dom (SerM.trim q) n (2 ^ B) := by
    by_cases le : r1 ≤ r2
    · exact ⟨_, fun B hB => .inl (rb_lead rt rn r12 (by omega) hr1)⟩
    · exact ⟨_, fun B hB => .inr (rb_lead (SerM.trim_tm q) on r22 (by omega) hr2)⟩
  obtain ⟨n, hdom⟩ := hdom
  obtain ⟨j, l, r, k1, k2, k3, R⟩ := SerM.sml_canc (bits := min r1 r2 + 32) S er rt rn (by omega) hdom
  have c9 := I.c9
  have sm : (min r1 r2 + 32) * 2 ^ j ≤ 9000 := by
    rcases k3 with rfl | k3
    · rw [Nat.pow_zero]; omega
    · cases j with
      | zero => rw [Nat.pow_zero]; omega
      | succ j =>
        rw [Nat.add_sub_cancel] at k3
        rw [Nat.pow_succ, ← Nat.mul_assoc]
        omega
  refine ⟨j, l, r, ⟨k1, k2, sm⟩, fun t x' y' H5 s5 ht5 hx5 hy5 hx4 hy4 => ?_⟩
  have s45 := s4.trans s5
  refine ⟨t, _, rfl, SqT.of ht5, rfl, _, _, rfl, _, _, rfl, rfl, ?_⟩
  refine ⟨(by show 1 ≤ sizeLine; decide), fun z1 hz1 => ?_⟩
  refine ⟨_, rfl, z1, _, _, rfl, rfl, upd_same, (by omega), (by omega), (by show 1 * _ ≤ _; omega), fun z2 hz2 => ?_⟩
  have hx6 : upd H5 z1 (.lst [V.int 0]) x' = some (.lst (iv l)) := by rw [upd_ne (ne_of_none hx5 hz1)]; exact hx5
  have nx : x' ≠ z2 := ne_of_none hx6 hz2
  have erep : (List.replicate ((k : Int)).toNat [V.int 0]).flatten = List.replicate k (V.int 0) := by
    rw [Int.toNat_natCast]
    exact rep_one k
  have lb : l.length ≤ 200 := by
    have np : SerM.NZ p := by
      obtain ⟨i, hi⟩ := SerM.nz_of (SerM.trim_tm p) ne
      exact ⟨i, by rwa [SerM.trim_co] at hi⟩
    have := SerM.dv_len R.tu np (SerM.red_dv S.b1 R).1
    rw [zp_len] at this
    omega
  rw [erep]
  refine ⟨_, rfl, z2, x', _, _, rfl, rfl, upd_same, (by rw [upd_ne nx]; exact hx6), (by rw [List.length_replicate, List.length_map]; omega), fun z3 hz3 => ?_⟩
  rw [← iv_zp]
  have s6 := (((s45.trans (same_upd hz1 (.lst [V.int 0]))).trans (same_upd hz2 (.lst (List.replicate k (V.int 0))))).trans (same_upd hz3 (.lst (iv (SerM.zp k l)))))
  refine ⟨_, rfl, (by show 2 ≤ sizeLine; decide), fun t2 ht2 => ?_⟩
  refine qq _ _ R t2 z3 y' _ (s6.trans (same_upd ht2 _)) upd_same ?_ ?_ (((s45.trans (same_upd hz1 (.lst [V.int 0]))).trans (same_upd hz2 (.lst (List.replicate k (V.int 0))))).free hz3) (s4.free hy4)
  · rw [upd_ne (ne_of_none upd_same ht2), upd_same]
  · have y1 := (same_upd hz1 (.lst [V.int 0])) _ _ hy5
    have y2 := (same_upd hz2 (.lst (List.replicate k (V.int 0)))) _ _ y1
    have y3 := (same_upd hz3 (.lst (iv (SerM.zp k l)))) _ _ y2
    exact (same_upd ht2 _) _ _ y3
end
end Un
namespace Un
open PySem L2 TL
section
variable {P : Program} {w : World} {K : PySem.W.Frag} {mg : Str → Option Value} {base : Heap}
/-! ### expanded -/
def inn (row F M : SerM.Po) (k j : Nat) : Int := SerM.co row k - SerM.S j fun i => SerM.co F (i + 1) * SerM.co M (k - (i + 1))
theorem add_len : ∀ (n : Nat) (a b : SerM.Po), a.length = n → b.length = n → (SerM.add a b).length = n
  | 0, a, b, ha, hb => by
    rw [List.length_eq_zero_iff] at ha hb
    subst ha hb; rfl
  | n + 1, x :: a, y :: b, ha, hb => congrArg (· + 1) (add_len n a b (by simpa using ha) (by simpa using hb))
end
end Un
namespace Un
open PySem L2 TL
section
variable {P : Program} {w : World} {K : PySem.W.Frag} {mg : Str → Option Value} {base : Heap}
end
end Un
namespace L2
open PySem PySem.Spec PyProof.Rows
section
variable {X : Cx}
theorem PI.or {tg l : Expr} {t1 t2 : TI} (h1 : PI X tg l t1) (h2 : PI X tg l t2) : PI X tg l (fun σ H R => t1 σ H R ∨ t2 σ H R) :=
  ⟨fun pins s σ H R I h => h.elim (fun q => h1.run pins s σ H R I q) fun q => h2.run pins s σ H R I q⟩
/-- o.f = .. as a target -/
def gFld (K : PySem.W.Frag) (ta : TE) (f : Str) : TG := fun v σ H Q => ta σ H fun x H1 => ∃ a C dx fs, x = .ref a ∧ H1 a = some (.ins C dx fs) ∧ Cls K C ∧ NoAttr K C f ∧ fs.length < 1000 ∧ Q σ (upd H1 a (.ins C dx (putF f v fs)))
theorem pg_fld {o : Expr} {f : Str} {ta : TE} {pos : Pos} (ho : PE X o ta)
    (he : ∀ v, assign (.Attribute o f pos) X.env v = (holding [v] (eval o X.env) >>= fun ov => standAt pos.atName >>= fun _ => holding [v, ov] (setAttr ov f v) >>= fun _ => release [v, ov] []) := by intro _; rfl) : PG X (.Attribute o f pos) (gFld X.K ta f) := by
  refine ⟨fun pins s σ H v u Q I r h => ?_⟩
  rw [he]
  refine wpAny_bind (wpAny_holding (thn (ho.run pins s σ H _ I h) fun ov s1 ⟨x, H1, I1, r1, a, C, dx, fs, ex, ea, c, n, l, q⟩ => ?_))
  subst ex
  obtain rfl : ov = Value.ref a := r1
  exact wpAny_bind (wpAny_standAt (wpAny_bind (wpAny_holding (setattr_ok I1 ea c n l r fun s2 I2 => wpAny_release ⟨σ, _, I2, q⟩))))
end
end L2
namespace Un
open PySem L2 TL
section
variable {P : Program} {w : World} {K : PySem.W.Frag} {mg : Str → Option Value} {base : Heap}
/-! ### series -/
structure SerT (mg : Str → Option Value) : Prop where
  isi : mg "isinstance" = none
  list : mg "list" = none
  tuple : mg "tuple" = none
  all : mg "all" = none
theorem RowV.ty {H : Hp} {x : V} {p : SerM.Po} (h : RowV K H x p) : TyX K H x (.type "list") ∨ TyX K H x (.type "tuple") := by
  obtain ⟨a, rfl, h | h⟩ := h
  · rcases h with (h | ⟨o, h⟩) | ⟨o, its, n, h1, h2, _⟩
    · exact .inl (.base (.lst h))
    · exact .inl (.base (.frz h))
    · exact .inl (.kList h1 h2)
  · rcases h with (h | ⟨o, h⟩) | ⟨o, its, n, h1, h2, _⟩
    · exact .inr (.base (.tup h))
    · exact .inr (.fTuple h)
    · exact .inr (.kTuple h1 h2)
theorem RowV.kit {H : Hp} {x : V} {p : SerM.Po} (h : RowV K H x p) : ∃ t : String, TyX K H x (.type t) ∧ PySem.W.kitAny K (.type t) [.type "list", .type "tuple"] = some true := by
  rcases h.ty with h | h
  · exact ⟨_, h, kitLT (r1 := true) (r2 := false) (by decide +kernel) (by decide +kernel)⟩
  · exact ⟨_, h, kitLT (r1 := false) (r2 := true) (by decide +kernel) (by decide +kernel)⟩
theorem RowV.tru {H : Hp} {x : V} {p : SerM.Po} (h : RowV K H x p) : TruV K x H (!p.isEmpty) := by
  obtain ⟨a, rfl, h | h⟩ := h
  · exact .inl ⟨_, h, by cases p <;> rfl⟩
  · exact .inr (.inl ⟨_, h, by cases p <;> rfl⟩)
abbrev sIsRow : Stmt := top 32
def spIsRow (K : PySem.W.Frag) : Sp := fun vs H Q _ => ∃ (x : V) (p : SerM.Po), vs = [x] ∧ RowV K H x p ∧ p.length ≤ 1000 ∧ ∀ H', Same H H' → Q (.bl true) H'
theorem scIsRow : FnScope ["value", "item"] ["value"] (defScope sIsRow) := ⟨rfl, rfl, rfl, by decide +kernel, rfl, by decide +kernel, by decide +kernel⟩
theorem ok_isRow {f g : Addr} {fd gd : FuncData} (F : Fun K "is_row" "is_row" sIsRow f fd) (T : SerT mg) (GI : Df P w K mg base 1 g gd "is_integer" ["value"] (spInteger K)) : FnOk P w K mg base CX0 2 f fd ["value"] (spIsRow K) := by
  refine F.ok scIsRow (fun vs H Q E h => ?_) (fun cdv A outer s H vs Q E hr h => ?_)
  · obtain ⟨x, p, rfl, _⟩ := h
    rfl
  obtain ⟨x, p, rfl, R, hl, q⟩ := h
  have hsz : 1000000 < sizeLine := by decide
  refine ⟨_, (pss_one (ps_ret (pe_and (pe_callB call_isiT (by rfl) T.isi (by decide +kernel) (pa_cons (pv 0) (pa_cons (pe_tup (pa_cons (pe_bltn (v := .ty "list") (by rfl) T.list (by decide +kernel) rfl) (pa_cons (pe_bltn (v := .ty "tuple") (by rfl) T.tuple (by decide +kernel) rfl) pa_nil))) pa_nil))) (pe_one (pe_callB (cr_all rfl) (by rfl) T.all (by decide +kernel) (pa_cons (pe_lc (own := [("item", 1)]) (g := (gName 1)) rfl scIsRow.nd (PI.or (pi_list (pv 0)) (pi_tup (pv 0))) (blkOk_by (own := [("item", 1)]) (N := ["value", "item"]) (sc := defScope sIsRow) (by decide +kernel)) (fun _ _ _ _ _ => (pg_name (i := 1) scIsRow.nd rfl (Or.inl rfl) (Or.inr rfl))) (fun _ _ _ _ _ => pts_nil) (fun _ _ _ _ _ => (pe_call GI.ok (hr.mono (by decide)) (by rfl) GI.m GI.kp GI.b .nil pass0 (pa_cons (pv 1) pa_nil)))) pa_nil)))))), ?_⟩
  have hz : ([V.ty "list", V.ty "tuple"] : List V).length ≤ sizeLine := by show 2 ≤ sizeLine; decide
  refine ⟨x, rfl, hz, fun t ht => ?_⟩
  have s1 := same_upd ht (.tup [.ty "list", .ty "tuple"])
  have R1 := R.same s1
  obtain ⟨k, tk, kk⟩ := R1.kit
  refine ⟨_, t, _, _, [.type "list", .type "tuple"], _, rfl, upd_same, .cons (.ty _) (.cons (.ty _) .nil), tk, kk, ?_⟩
  refine ⟨_, rfl, iteT ?_⟩
  generalize upd H t (.tup [.ty "list", .ty "tuple"]) = H1 at s1 R1 ⊢
  have turn : ∀ (D : Addr), H1 D = none → ∀ (i : Nat) (v : V) (H2 : Hp), i < p.length → (iv p)[i]? = some v → (Same H1 H2 ∧ H2 D = some (.lst (List.replicate i (V.bl true)))) →
      spInteger K [v] H2 (fun z H3 => ∃ acc, H3 D = some (.lst acc) ∧ acc.length < sizeLine ∧ Same H1 (upd H3 D (.lst (acc ++ [z]))) ∧ upd H3 D (.lst (acc ++ [z])) D = some (.lst (List.replicate (i + 1) (V.bl true)))) E0 := fun D hD i v H2 hi hv ⟨s2, h2⟩ => by
    obtain ⟨_, rfl⟩ := iv_get hv
    refine ⟨_, "int", true, false, rfl, .base (.int _), by decide +kernel, by decide +kernel, _, h2, by rw [List.length_replicate]; omega, fun b o hb => ?_, ?_⟩
    · rw [upd_ne (ne_of_none hb hD)]; exact s2 _ _ hb
    · rw [upd_same, List.replicate_succ']; rfl
  have last : ∀ (D : Addr) (H2 : Hp), Same H1 H2 → H2 D = some (.lst (List.replicate p.length (V.bl true))) → rAll K [.ref D] H2 Q := fun D H2 s2 h2 => by
    refine ⟨D, List.replicate p.length true, rfl, SqL.of (by rw [h2, List.map_replicate]), ?_⟩
    have e : (List.replicate p.length true).all id = true := by rw [List.all_eq_true]; intro b hb; exact (List.mem_replicate.mp hb).2
    rw [e]
    exact q H2 (s1.trans s2)
  obtain ⟨a, rfl, R | R⟩ := R1
  · refine .inl ⟨_, rfl, a, rfl, ⟨_, R⟩, fun D hD => ?_⟩
    refine lc_it (walk_list (K := K) (xs := iv p)) (fun i H2 => Same H1 H2 ∧ H2 D = some (.lst (List.replicate i (V.bl true)))) ⟨same_upd hD _, upd_same⟩ (fun i H2 _ h => h.1.seq R) (fun i v H2 H3 hi h hv => ?_) fun H2 h => ?_
    · obtain ⟨rfl, hv⟩ := hv
      rw [List.length_map] at hi
      exact ⟨rfl, _, rfl, turn D hD i v H3 hi hv h⟩
    · rw [List.length_map] at h
      exact last D H2 h.1 h.2
  · refine .inr ⟨_, rfl, a, rfl, ⟨_, R⟩, fun D hD => ?_⟩
    refine lc_it (walk_tup (K := K) (xs := iv p)) (fun i H2 => Same H1 H2 ∧ H2 D = some (.lst (List.replicate i (V.bl true)))) ⟨same_upd hD _, upd_same⟩ (fun i H2 _ h => sameT h.1 R) (fun i v H2 H3 hi h hv => ?_) fun H2 h => ?_
    · obtain ⟨rfl, hv⟩ := hv
      rw [List.length_map] at hi
      exact ⟨rfl, _, rfl, turn D hD i v H3 hi hv h⟩
    · rw [List.length_map] at h
      exact last D H2 h.1 h.2
end
end Un
namespace Un
open PySem L2 TL
section
variable {P : Program} {w : World} {K : PySem.W.Frag} {mg : Str → Option Value} {base : Heap}
/-! ### the class Series -/
abbrev sSeries : Stmt := top 38
abbrev sS_init : Stmt := inClass sSeries 0
abbrev sS_top : Stmt := inClass sSeries 2
abbrev sS_bottom : Stmt := inClass sSeries 3
abbrev sS_bool : Stmt := inClass sSeries 17
structure SerC (K : PySem.W.Frag) (C : Addr) : Prop where
  cl : Cls K C
  t : NoAttr K C "_top"
  b : NoAttr K C "_bottom"
  o : NoAttr K C "order"
def OrdV (u : SerM.Po) (z : V) : Prop := (∃ k : Nat, k < u.length ∧ SerM.co u k ≠ 0 ∧ (∀ i, i < k → SerM.co u i = 0) ∧ z = .int k) ∨ ((∀ i, SerM.co u i = 0) ∧ z = .non)
abbrev serFs (x y : Addr) (z : V) : List (Str × V) := [("_top", .ref x), ("_bottom", .ref y), ("order", z)]
/-- the series u / v stands at a -/
def SerAt (H : Hp) (C a : Addr) (u v : SerM.Po) : Prop := ∃ (dx x y : Addr) (z : V), H a = some (.ins C dx (serFs x y z)) ∧ H x = some (.lst (iv u)) ∧ H y = some (.lst (iv v)) ∧ OrdV u z
theorem SerAt.same {H H' : Hp} {C a : Addr} {u v : SerM.Po} (s : Same H H') (h : SerAt H C a u v) : SerAt H' C a u v := by
  obtain ⟨dx, x, y, z, h1, h2, h3, h4⟩ := h
  exact ⟨dx, x, y, z, s _ _ h1, s _ _ h2, s _ _ h3, h4⟩
theorem iv_bag {H : Hp} {b c x : Addr} {u : SerM.Po} (B : Bag H b c) (h : H x = some (.lst (iv u))) : x ≠ b := fun e => by
  subst e
  obtain ⟨ns, p, r, s, k, B⟩ := B
  have := B.lb.symm.trans h
  cases u with
  | nil => cases this
  | cons z zs => cases this
theorem SerAt.kp {H H' : Hp} {C a b c : Addr} {u v : SerM.Po} (B : Bag H b c) (k : Kp b H H') (h : SerAt H C a u v) : SerAt H' C a u v := by
  obtain ⟨dx, x, y, z, h1, h2, h3, h4⟩ := h
  have na : a ≠ b := fun e => by
    subst e
    obtain ⟨ns, p, r, s, k, B⟩ := B
    have := B.lb.symm.trans h1
    cases this
  exact ⟨dx, x, y, z, k _ _ h1 na, k _ _ h2 (iv_bag B h2), k _ _ h3 (iv_bag B h3), h4⟩
/-- .. and its two lists are new -/
def SerNew (H H' : Hp) (C a : Addr) (u v : SerM.Po) : Prop := ∃ (dx x y : Addr) (z : V), H' a = some (.ins C dx (serFs x y z)) ∧ H' x = some (.lst (iv u)) ∧ H' y = some (.lst (iv v)) ∧ OrdV u z ∧ H x = none ∧ H y = none
theorem SerNew.at_ {H H' : Hp} {C a : Addr} {u v : SerM.Po} (h : SerNew H H' C a u v) : SerAt H' C a u v := by
  obtain ⟨dx, x, y, z, h1, h2, h3, h4, _⟩ := h
  exact ⟨dx, x, y, z, h1, h2, h3, h4⟩
theorem SerNew.on {H H' H'' : Hp} {C a : Addr} {u v : SerM.Po} (h : SerNew H H' C a u v) (ha : H a = none) (e : ∀ b, H b = none → H'' b = H' b) : SerAt H'' C a u v := by
  obtain ⟨dx, x, y, z, h1, h2, h3, h4, h5, h6⟩ := h
  exact ⟨dx, x, y, z, by rw [e a ha]; exact h1, by rw [e x h5]; exact h2, by rw [e y h6]; exact h3, h4⟩
def spSerI (K : PySem.W.Frag) (C : Addr) : Sp := fun vs H Q _ => ∃ (a dx : Addr) (x y : V) (p q : SerM.Po) (c : Nat), vs = [.ref a, x, y] ∧ H a = some (.ins C dx []) ∧ RowV K H x p ∧ RowV K H y q ∧ RedIn p q c ∧
  ∀ (u v : SerM.Po) (H' : Hp), SerM.Red p q u v → (∀ b o, b ≠ a → H b = some o → H' b = some o) → SerNew H H' C a u v → Q .non H'
abbrev serPs : List Str := ["self", "top", "bottom"]
theorem scS_init : FnScope ["self", "top", "bottom"] ["self", "top", "bottom"] (defScope sS_init) := ⟨rfl, rfl, rfl, by decide +kernel, rfl, by decide +kernel, by decide +kernel⟩
theorem ok_serI {f C g1 g2 g3 : Addr} {fd d1 d2 d3 : FuncData} {dvs : List V} (F : FunD K "__init__" "Series.__init__" (defArgs sS_init) (defBody sS_init) (defScope sS_init) dvs [] f fd) (C' : SerC K C) (GW : Df P w K mg base 2 g1 d1 "is_row" ["value"] (spIsRow K)) (GR : Df P w K mg base 4 g2 d2 "reduced" ["top", "bottom"] (spReduced K)) (GO : Df P w K mg base 1 g3 d3 "order_of" ["row"] (spOrderOf K)) :
    FnOk P w K mg base CX0 5 f fd serPs (spSerI K C) := by
  refine F.ok scS_init (fun vs H Q E h => ?_) (fun cdv A outer s H vs Q E hr h => ?_)
  · obtain ⟨a, dx, x, y, p, q, c, rfl, _⟩ := h
    rfl
  obtain ⟨a, dx, x, y, p, q, c, rfl, ha, Rx, Ry, I, qq⟩ := h
  refine ⟨_, (pss_cons (ps_if (PW.pt (pw_or (pt_not (pt_val (pe_call GW.ok (hr.mono (by decide)) (by rfl) GW.m GW.kp GW.b .nil pass0 (pa_cons (pv 1) pa_nil)))) (pw_or (pt_not (pt_val (pe_call GW.ok (hr.mono (by decide)) (by rfl) GW.m GW.kp GW.b .nil pass0 (pa_cons (pv 2) pa_nil)))) (pw_or (pt_not (pt_truth (pv 2) (by intro _; rfl))) (pw_or1 (pt_cmpR op_ne (pe_ix ix_seq (pv 2) pe_int (fun _ _ => rfl)) pe_int (nomark _)))))))
 pss_never
 pss_nil)
 (pss_cons (ps_asg (pe_call GR.ok (hr.mono (by decide)) (by rfl) GR.m GR.kp GR.b .nil pass0 (pa_cons (pv 1) (pa_cons (pv 2) pa_nil))) (pg_tup (by rfl) (pgs_cons (pg_fld (pv 0)) (pgs_cons (pg_fld (pv 0)) pgs_nil))))
 (pss_one (ps_fld (pv 0) (pe_call GO.ok (hr.mono (by decide)) (by rfl) GO.m GO.kp GO.b .nil pass0 (pa_cons (pe_fld (pv 0) rfl) pa_nil)) rfl)))), ?_⟩
  have I1 := I.l1
  have I2 := I.l2
  obtain ⟨P', Q', A', m', A2, m2, Bd, S, hBd⟩ := I.sm
  refine ⟨x, rfl, x, p, rfl, Rx, by omega, fun H1 s1 => ?_⟩
  refine ⟨_, rfl, iteF ?_⟩
  refine ⟨y, rfl, y, q, rfl, Ry.same s1, by omega, fun H2 s2' => ?_⟩
  refine ⟨_, rfl, iteF ?_⟩
  have s2 := s1.trans s2'
  have Ry2 := Ry.same s2
  have q0 : SerM.co q 0 = 1 := by rw [SerM.co0_ev]; exact S.b1
  have ql : 0 < q.length := Nat.pos_of_ne_zero fun z => by
    rw [List.length_eq_zero_iff.mp z, SerM.co_nil] at q0; omega
  refine ⟨y, rfl, _, Ry2.tru, ?_⟩
  have qe : q.isEmpty = false := by cases q <;> first | rfl | exact absurd ql (Nat.not_lt_zero _)
  rw [qe]
  refine iteF ?_
  refine ⟨y, rfl, ?_⟩
  refine Ry2.ix (i := 0) rfl ql ⟨rfl, _, rfl, ?_⟩
  rw [q0]
  refine iteF ?_
  have ha2 := s2 _ _ ha
  refine ⟨x, rfl, y, rfl, x, y, p, q, c, rfl, Rx.same s2, Ry2, I, fun u v R t tx ty H3 s3 ht hx hy hx0 hy0 => ?_⟩
  have ha3 := s3 _ _ ha2
  have nx : tx ≠ a := fun e => by rw [e, ha2] at hx0; cases hx0
  have ny : ty ≠ a := fun e => by rw [e, ha2] at hy0; cases hy0
  refine ⟨t, _, rfl, SqT.of ht, rfl, _, _, rfl, _, rfl, a, C, dx, _, rfl, ha3, C'.cl, C'.t, (by show (0 : Nat) < 1000; decide), ?_⟩
  refine ⟨_, _, rfl, _, rfl, a, C, dx, _, rfl, upd_same, C'.cl, C'.b, (by show (1 : Nat) < 1000; decide), rfl, ?_⟩
  refine ⟨_, rfl, a, C, dx, _, _, rfl, upd_same, C'.cl, C'.t, rfl, ?_⟩
  have hx5 : upd (upd H3 a (.ins C dx (putF "_top" (.ref tx) []))) a (.ins C dx (putF "_bottom" (.ref ty) (putF "_top" (.ref tx) []))) tx = some (.lst (iv u)) := by rw [upd_ne nx, upd_ne nx]; exact hx
  have hy5 : upd (upd H3 a (.ins C dx (putF "_top" (.ref tx) []))) a (.ins C dx (putF "_bottom" (.ref ty) (putF "_top" (.ref tx) []))) ty = some (.lst (iv v)) := by rw [upd_ne ny, upd_ne ny]; exact hy
  have hk : ∀ b o, b ≠ a → H b = some o → upd (upd H3 a (.ins C dx (putF "_top" (.ref tx) []))) a (.ins C dx (putF "_bottom" (.ref ty) (putF "_top" (.ref tx) []))) b = some o := fun b o n hb => by rw [upd_ne n, upd_ne n]; exact s3 _ _ (s2 _ _ hb)
  have ha5 : upd (upd H3 a (.ins C dx (putF "_top" (.ref tx) []))) a (.ins C dx (putF "_bottom" (.ref ty) (putF "_top" (.ref tx) []))) a = some (.ins C dx (putF "_bottom" (.ref ty) (putF "_top" (.ref tx) []))) := upd_same
  generalize upd (upd H3 a (.ins C dx (putF "_top" (.ref tx) []))) a (.ins C dx (putF "_bottom" (.ref ty) (putF "_top" (.ref tx) []))) = H5 at hx5 hy5 hk ha5 ⊢
  have fin : ∀ (z : V) (H6 : Hp), Same H5 H6 → OrdV u z → Q .non (upd H6 a (.ins C dx (putF "order" z (putF "_bottom" (.ref ty) (putF "_top" (.ref tx) []))))) := fun z H6 s6 oz => by
    refine qq u v _ R (fun b o n hb => ?_) ⟨dx, tx, ty, z, upd_same, ?_, ?_, oz, s2.free hx0, s2.free hy0⟩
    · rw [upd_ne n]; exact s6 _ _ (hk b o n hb)
    · rw [upd_ne nx]; exact s6 _ _ hx5
    · rw [upd_ne ny]; exact s6 _ _ hy5
  refine ⟨tx, u, rfl, SqL.of hx5, fun k H6 s6 k1 k2 k3 => ?_, fun hz H6 s6 => ?_⟩
  · exact ⟨_, rfl, a, C, dx, _, rfl, s6 _ _ ha5, C'.cl, C'.o, (by show (2 : Nat) < 1000; decide), fin _ H6 s6 (.inl ⟨k, k1, k2, k3, rfl⟩)⟩
  · exact ⟨_, rfl, a, C, dx, _, rfl, s6 _ _ ha5, C'.cl, C'.o, (by show (2 : Nat) < 1000; decide), fin _ H6 s6 (.inr ⟨hz, rfl⟩)⟩
/-! ### top, bottom, bool -/
def spTopM (C : Addr) : Sp := fun vs H Q _ => ∃ (a : Addr) (u v : SerM.Po), vs = [.ref a] ∧ SerAt H C a u v ∧ ∀ l, H l = none → Q (.ref l) (upd H l (.lst (iv u)))
def spBotM (C : Addr) : Sp := fun vs H Q _ => ∃ (a : Addr) (u v : SerM.Po), vs = [.ref a] ∧ SerAt H C a u v ∧ ∀ l, H l = none → Q (.ref l) (upd H l (.lst (iv v)))
theorem scS_top : FnScope ["self"] ["self"] (defScope sS_top) := ⟨rfl, rfl, rfl, by decide +kernel, rfl, by decide +kernel, by decide +kernel⟩
theorem scS_bottom : FnScope ["self"] ["self"] (defScope sS_bottom) := ⟨rfl, rfl, rfl, by decide +kernel, rfl, by decide +kernel, by decide +kernel⟩
theorem ok_serTop {f C : Addr} {fd : FuncData} (F : Fun K "top" "Series.top" sS_top f fd) (C' : SerC K C) (T : SerT mg) : FnOk P w K mg base CX0 1 f fd ["self"] (spTopM C) := by
  refine F.ok scS_top (fun vs H Q E h => ?_) (fun cdv A outer s H vs Q E hr h => ?_)
  · obtain ⟨a, u, v, rfl, _⟩ := h
    rfl
  obtain ⟨a, u, v, rfl, ⟨dx, x, y, z, h1, h2, h3, h4⟩, q⟩ := h
  exact ⟨_, (pss_one (ps_ret (pe_callTy call_list_of (by rfl) T.list (by decide +kernel) (pa_cons (pe_fld (pv 0) rfl) pa_nil)))), _, rfl, a, C, dx, _, _, rfl, h1, C'.cl, C'.t, rfl, x, _, rfl, .inl (SqL.of h2), q⟩
theorem ok_serBottom {f C : Addr} {fd : FuncData} (F : Fun K "bottom" "Series.bottom" sS_bottom f fd) (C' : SerC K C) (T : SerT mg) : FnOk P w K mg base CX0 1 f fd ["self"] (spBotM C) := by
  refine F.ok scS_bottom (fun vs H Q E h => ?_) (fun cdv A outer s H vs Q E hr h => ?_)
  · obtain ⟨a, u, v, rfl, _⟩ := h
    rfl
  obtain ⟨a, u, v, rfl, ⟨dx, x, y, z, h1, h2, h3, h4⟩, q⟩ := h
  exact ⟨_, (pss_one (ps_ret (pe_callTy call_list_of (by rfl) T.list (by decide +kernel) (pa_cons (pe_fld (pv 0) rfl) pa_nil)))), _, rfl, a, C, dx, _, _, rfl, h1, C'.cl, C'.b, rfl, y, _, rfl, .inl (SqL.of h3), q⟩
def spBoolM (C : Addr) : Sp := fun vs H Q _ => ∃ (a : Addr) (u v : SerM.Po), vs = [.ref a] ∧ SerAt H C a u v ∧ SerM.Tm u ∧ Q (.bl (!u.isEmpty)) H
theorem scS_bool : FnScope ["self"] ["self"] (defScope sS_bool) := ⟨rfl, rfl, rfl, by decide +kernel, rfl, by decide +kernel, by decide +kernel⟩
theorem ok_serBool {f C : Addr} {fd : FuncData} (F : Fun K "__bool__" "Series.__bool__" sS_bool f fd) (C' : SerC K C) : FnOk P w K mg base CX0 1 f fd ["self"] (spBoolM C) := by
  refine F.ok scS_bool (fun vs H Q E h => ?_) (fun cdv A outer s H vs Q E hr h => ?_)
  · obtain ⟨a, u, v, rfl, _⟩ := h
    rfl
  obtain ⟨a, u, v, rfl, ⟨dx, x, y, z, h1, h2, h3, h4⟩, tu, q⟩ := h
  refine ⟨_, (pss_one (ps_ret (pe_cmpR op_notN (pe_fld (pv 0) rfl) pe_non (nomark _)))), _, rfl, a, C, dx, _, _, rfl, h1, C'.cl, C'.o, rfl, rfl, ?_⟩
  rcases h4 with ⟨k, k1, k2, k3, rfl⟩ | ⟨hz, rfl⟩
  · rw [decide_eq_false (fun e => by cases e)]
    have : u.isEmpty = false := by cases u <;> first | rfl | exact absurd k1 (Nat.not_lt_zero _)
    rw [this] at q
    exact q
  · rw [decide_eq_true rfl]
    have : u = [] := Classical.byContradiction fun n => by
      obtain ⟨i, hi⟩ := SerM.nz_of tu n
      exact hi (hz i)
    subst this
    exact q
end
end Un
namespace Un
open PySem L2 TL
section
variable {P : Program} {w : World} {K : PySem.W.Frag} {mg : Str → Option Value} {base : Heap}
end
end Un
namespace L2
open PySem PySem.Spec PyProof.Rows
/-! ### == and != of two lists of whole numbers -/
abbrev ivs (p : List Int) : List V := p.map V.int
def rEqI (K : PySem.W.Frag) : V → V → Hp → VK → Prop := fun x y H Q => ∃ a b p q, x = .ref a ∧ y = .ref b ∧ SqL K H a (ivs p) ∧ SqL K H b (ivs q) ∧ Q (.bl (decide (p = q))) H
def rNeI (K : PySem.W.Frag) : V → V → Hp → VK → Prop := fun x y H Q => ∃ a b p q, x = .ref a ∧ y = .ref b ∧ SqL K H a (ivs p) ∧ SqL K H b (ivs q) ∧ Q (.bl (!decide (p = q))) H
theorem dp_ivs {K : PySem.W.Frag} {H : Hp} : ∀ p : List Int, DpAll K H (ivs p) (p.map PyData.int)
  | [] => .nil
  | _ :: r => .cons (.int _) (dp_ivs r)
theorem eqv_ivs : ∀ p q : List Int, PyData.eqvAll (p.map PyData.int) (q.map PyData.int) = decide (p = q)
  | [], [] => by simp [PyData.eqvAll]
  | [], _ :: _ => by simp [PyData.eqvAll]
  | _ :: _, [] => by simp [PyData.eqvAll]
  | x :: p, y :: q => by
    rw [List.map_cons, List.map_cons, PyData.eqvAll, PyData.eqv, eqv_ivs p q]
    by_cases h : x = y <;> by_cases g : p = q <;> simp [h, g]
theorem shp_ivs (p : List Int) : SeqAt.shaped (.list (p.map PyData.int)) = true := by
  have h1 : ∀ p : List Int, PyData.canLayAll0 (p.map PyData.int) = true := fun p => by
    induction p with
    | nil => rfl
    | cons x p ih => rw [List.map_cons, PyData.canLayAll0, ih]; rfl
  have h2 : ∀ p : List Int, PyData.depthAll (p.map PyData.int) ≤ 5 := fun p => by
    induction p with
    | nil => exact Nat.zero_le _
    | cons x p ih => rw [List.map_cons, PyData.depthAll]; exact Nat.max_le.mpr ⟨by rw [PyData.depth]; decide, ih⟩
  have h3 := h2 p
  unfold SeqAt.shaped
  rw [PyData.canLay0, h1, PyData.depth, decide_eq_true (by omega)]
  rfl
section
variable {X : Cx}
theorem op_eqI (hu : X.A.units + 64 < cLine) : OpR X (compareOp .Eq) (rEqI X.K) := by
  intro pins s σ H x y v u Q I rx ry h
  obtain ⟨a, b, p, q, rfl, rfl, ha, hb, h⟩ := h
  refine op_eqD hu pins s σ H _ _ v u Q I rx ry ⟨_, _, .lst ha (dp_ivs p), .lst hb (dp_ivs q), shp_ivs p, shp_ivs q, ?_⟩
  rw [PyData.eqv, eqv_ivs]; exact h
theorem op_neI (hu : X.A.units + 64 < cLine) : OpR X (compareOp .NotEq) (rNeI X.K) := by
  intro pins s σ H x y v u Q I rx ry h
  obtain ⟨a, b, p, q, rfl, rfl, ha, hb, h⟩ := h
  refine op_neD hu pins s σ H _ _ v u Q I rx ry ⟨_, _, .lst ha (dp_ivs p), .lst hb (dp_ivs q), shp_ivs p, shp_ivs q, ?_⟩
  rw [PyData.eqv, eqv_ivs]; exact h
end
end L2
namespace Un
open PySem L2 TL
section
variable {P : Program} {w : World} {K : PySem.W.Frag} {mg : Str → Option Value} {base : Heap}
/-! ### the law's own polynomials -/
structure LawT (mg : Str → Option Value) : Prop where
  len : mg "len" = none
  list : mg "list" = none
  range : mg "range" = none
  enum : mg "enumerate" = none
  max : mg "max" = none
  min : mg "min" = none
  zip : mg "zip" = none
  all : mg "all" = none
  isi : mg "isinstance" = none
  int : mg "int" = none
  bool : mg "bool" = none
/-- a new list of these numbers comes out, all else stays -/
def Out (H : Hp) (r : SerM.Po) (Q : VK) : Prop := ∀ (m : Addr) (H' : Hp), Same H H' → H m = none → H' m = some (.lst (iv r)) → Q (.ref m) H'
abbrev sLawTrim : Stmt := top 57
def spTrimL (K : PySem.W.Frag) : Sp := fun vs H Q _ => ∃ (a : Addr) (p : SerM.Po), vs = [.ref a] ∧ SqL K H a (iv p) ∧ p.length ≤ 1000 ∧ Out H (SerM.trim p) Q
theorem scLawTrim : FnScope ["_law_cells_here", "_law_found", "_law_k"] ["_law_cells_here"] (defScope sLawTrim) := ⟨rfl, rfl, rfl, by decide +kernel, rfl, by decide +kernel, by decide +kernel⟩
theorem take_last {p : SerM.Po} {l : Nat} (h1 : 1 ≤ l) (h2 : l ≤ p.length) : p.take l = p.take (l - 1) ++ [SerM.co p (l - 1)] := by
  obtain ⟨k, rfl⟩ : ∃ k, l = k + 1 := ⟨l - 1, by omega⟩
  rw [Nat.add_sub_cancel, List.take_add_one, List.getElem?_eq_getElem (by omega)]
  unfold SerM.co
  rw [List.getD_eq_getElem?_getD, List.getElem?_eq_getElem (by omega)]; rfl
theorem take_at {p : SerM.Po} {l : Nat} (h1 : 1 ≤ l) (h2 : l ≤ p.length) : atI (iv (p.take l)) (-1) = some (.int (SerM.co p (l - 1))) := by
  rw [take_last h1 h2]
  show atI (List.map V.int (_ ++ _)) _ = _
  rw [List.map_append]
  exact atI_last _ _
theorem take_cut {p : SerM.Po} {l : Nat} (h1 : 1 ≤ l) (h2 : l ≤ p.length) : cutV (iv (p.take l)) none (some (-1)) = iv (p.take (l - 1)) := by
  unfold cutV
  have e1 : HT.sIx (iv (p.take l)).length 0 none = 0 := rfl
  have e2 : HT.sIx (iv (p.take l)).length (iv (p.take l)).length (some (-1)) = l - 1 := by
    show (if (-1 : Int) < 0 then ((-1 : Int) + ((iv (p.take l)).length : Int)).toNat else min (-1 : Int).toNat (iv (p.take l)).length) = _
    rw [if_pos (by decide), List.length_map, List.length_take]; omega
  rw [e1, e2, List.drop_zero, Nat.sub_zero]
  show (List.map V.int (p.take l)).take (l - 1) = List.map V.int (p.take (l - 1))
  rw [← List.map_take, List.take_take, Nat.min_eq_left (by omega)]
theorem ok_trimL {f : Addr} {fd : FuncData} (F : Fun K "_law_trim" "_law_trim" sLawTrim f fd) (T : LawT mg) : FnOk P w K mg base CX0 1 f fd ["_law_cells_here"] (spTrimL K) := by
  refine F.ok scLawTrim (fun vs H Q E h => ?_) (fun cdv A outer s H vs Q E hr h => ?_)
  · obtain ⟨a, p, rfl, _⟩ := h
    rfl
  obtain ⟨a, p, rfl, R, hl, q⟩ := h
  have hsz : 1000000 < sizeLine := by decide
  refine ⟨_, (pss_cons (ps_set (i := 1) scLawTrim.nd rfl (by first | exact Or.inl rfl | exact Or.inr rfl) (pe_callTy call_list_of (by rfl) T.list (by decide +kernel) (pa_cons (pv 0) pa_nil)))
 (pss_cons (ps_for PassesOwn.never rfl (pi_range1 (by rfl) T.range (pa_cons (pe_callB call_len_seq (by rfl) T.len PySem.boot_len (pa_cons (pv 0) pa_nil)) pa_nil)) (pg_name (i := 2) scLawTrim.nd rfl (by first | exact Or.inl rfl | exact Or.inr rfl))
 (C8.pss_cut (ps_if (pt_cmpR op_eq (pe_ix ix_list (pv 1) (pe_un un_neg pe_int) (fun _ _ => rfl)) pe_int (nomark _))
 (pss_one (ps_set (i := 1) scLawTrim.nd rfl (by first | exact Or.inl rfl | exact Or.inr rfl) (pe_slice sl_list (pv 1) po_none (po_some (pe_un un_neg pe_int)))))
 pss_nil)
 (pss_one (ps_if (pt_cmpR (op_eqI hr.units) (pv 1) (pe_lst pa_nil) (nomark _))
 (pss_one (ps_ret (pe_lst pa_nil)))
 pss_nil))))
 (pss_one (ps_ret (pv 1))))), ?_⟩
  refine ⟨_, rfl, a, _, rfl, .inl R, fun x hx => ?_⟩
  have s1 := same_upd hx (.lst (iv p))
  refine ⟨_, rfl, a, _, rfl, .inl (s1.seq R), _, rfl, (by rw [List.length_map]; omega), (by rw [List.length_map]; omega), ?_⟩
  rw [List.length_map]
  have good : ∀ (m : Addr) (l : Nat) (H2 : Hp), Same H H2 → H m = none → H2 m = some (.lst (iv (p.take l))) → l ≤ p.length → (∀ j, l ≤ j → SerM.co p j = 0) → (l = 0 ∨ SerM.co p (l - 1) ≠ 0) → Q (.ref m) H2 := fun m l H2 s2 hm h2 hlp hz h => by
    rw [take_trim hlp hz h] at h2
    exact q m H2 s2 hm h2
  refine for_it (walk_range (lo := 0)) (fun i σ H2 => ∃ (m : Addr) (l : Nat) (v2 : Option V), σ = [some (.ref a), some (.ref m), v2] ∧ Same H H2 ∧ H m = none ∧ H2 m = some (.lst (iv (p.take l))) ∧ l ≤ p.length ∧ (∀ j, l ≤ j → SerM.co p j = 0) ∧ (1 ≤ l ∨ p.length = 0) ∧ (l + i ≤ p.length ∨ (1 ≤ l ∧ SerM.co p (l - 1) ≠ 0)))
    ⟨x, p.length, none, rfl, s1, hx, by rw [upd_same, List.take_length], Nat.le_refl _, fun j hj => SerM.co_len hj, by omega, .inl (Nat.le_refl _)⟩ (fun _ _ _ _ _ => trivial) ?_ ?_
  · rintro i v σ H2 H3 hi ⟨m, l, v2, rfl, s2, hm, h2, hlp, hz, h1, hp⟩ ⟨rfl, rfl⟩
    have hi' : i < p.length := by omega
    have l1 : 1 ≤ l := h1.elim id fun z => by omega
    refine ⟨fun σ' H' => ∃ (m : Addr) (l : Nat), σ' = [some (.ref a), some (.ref m), some (.int (0 + (i : Int)))] ∧ Same H H' ∧ H m = none ∧ H' m = some (.lst (iv (p.take l))) ∧ l ≤ p.length ∧ (∀ j, l ≤ j → SerM.co p j = 0) ∧ (l + (i + 1) ≤ p.length ∨ (1 ≤ l ∧ SerM.co p (l - 1) ≠ 0)), ?_, ?_⟩
    · refine ⟨_, rfl, _, rfl, m, _, _, _, rfl, rfl, SqL.of h2, take_at l1 hlp, rfl, _, rfl, ?_⟩
      rw [dec_int]
      refine ite2 (fun c => ?_) (fun c => ?_)
      · have z : SerM.co p (l - 1) = 0 := eq_of_beq c
        refine ⟨_, rfl, _, rfl, _, rfl, m, _, rfl, SqL.of h2, fun d hd => ?_⟩
        rw [take_cut l1 hlp]
        refine ⟨d, l - 1, rfl, s2.trans (same_upd hd _), s2.free hd, upd_same, by omega, fun j hj => ?_, .inl ?_⟩
        · by_cases e : j = l - 1
          · rw [e]; exact z
          · exact hz j (by omega)
        · rcases hp with h | ⟨_, h⟩
          · omega
          · exact absurd z h
      · have z : SerM.co p (l - 1) ≠ 0 := fun z => c (by rw [z]; rfl)
        exact ⟨m, l, rfl, s2, hm, h2, hlp, hz, .inr ⟨l1, z⟩⟩
    · rintro σ' H' ⟨m, l, rfl, s2, hm, h2, hlp, hz, hp⟩
      refine ⟨_, rfl, (by show 0 ≤ sizeLine; decide), fun z hz0 => ?_⟩
      have s3 := s2.trans (same_upd hz0 (.lst []))
      have h3 : upd H' z (.lst []) m = some (.lst (iv (p.take l))) := by rw [upd_ne (ne_of_none h2 hz0)]; exact h2
      refine ⟨m, z, p.take l, [], rfl, rfl, SqL.of h3, SqL.of upd_same, _, rfl, ?_⟩
      refine ite2 (fun c => ?_) (fun c => ?_)
      · have e : p.take l = [] := of_decide_eq_true c
        have l0 : l = 0 := by
          have := congrArg List.length e
          rw [List.length_take] at this
          have h0 : min l p.length = 0 := this
          omega
        refine ⟨(by show 0 ≤ sizeLine; decide), fun z2 hz2 => ?_⟩
        refine good z2 l _ (s3.trans (same_upd hz2 _)) (s3.free hz2) ?_ hlp hz (.inl l0)
        rw [upd_same, e]; rfl
      · have l1 : 1 ≤ l := Nat.pos_of_ne_zero fun e => c (decide_eq_true (by rw [e]; rfl))
        exact ⟨m, l, _, rfl, s3, hm, h3, hlp, hz, .inl l1, hp⟩
  · rintro σ H2 ⟨m, l, v2, rfl, s2, hm, h2, hlp, hz, h1, hp⟩
    refine ⟨_, rfl, good m l H2 s2 hm h2 hlp hz ?_⟩
    rcases hp with h | ⟨_, h⟩
    · exact .inl (by omega)
    · exact .inr h
end
end Un
namespace Un
open PySem L2 TL
section
variable {P : Program} {w : World} {K : PySem.W.Frag} {mg : Str → Option Value} {base : Heap}
theorem trim_co_ext {p q : SerM.Po} (h : ∀ i, SerM.co p i = SerM.co q i) : SerM.trim p = SerM.trim q := SerM.tm_ext (SerM.trim_tm p) (SerM.trim_tm q) fun i => by rw [SerM.trim_co, SerM.trim_co, h]
theorem tab_trim {g : Nat → Int} {n : Nat} {q : SerM.Po} (h : ∀ i, i < n → g i = SerM.co q i) (hz : ∀ i, n ≤ i → SerM.co q i = 0) : SerM.trim (tab g n) = SerM.trim q := trim_co_ext fun i => by
  by_cases e : i < n
  · rw [tab_co e, h i e]
  · rw [SerM.co_len (by rw [tab_len]; omega), hz i (by omega)]
abbrev sLawTimes : Stmt := top 58
def spTimesL (K : PySem.W.Frag) : Sp := fun vs H Q _ => ∃ (a b : Addr) (one other : SerM.Po) (c : Nat), vs = [.ref a, .ref b] ∧ SqL K H a (iv one) ∧ SqL K H b (iv other) ∧ one.length ≤ 400 ∧ other.length ≤ 400 ∧ (∀ i, (SerM.co one i).natAbs < 2 ^ c) ∧ (∀ i, (SerM.co other i).natAbs < 2 ^ c) ∧ c ≤ 100000 ∧ Out H (SerM.trim (SerM.mul one other)) Q
theorem scLawTimes : FnScope ["_law_one", "_law_other", "_law_found", "_law_at", "_law_a", "_law_k", "_law_b"] ["_law_one", "_law_other"] (defScope sLawTimes) := ⟨rfl, rfl, rfl, by decide +kernel, rfl, by decide +kernel, by decide +kernel⟩
theorem ok_timesL {f g : Addr} {fd gd : FuncData} (F : Fun K "_law_times" "_law_times" sLawTimes f fd) (T : LawT mg) (GT : Df P w K mg base 1 g gd "_law_trim" ["_law_cells_here"] (spTrimL K)) : FnOk P w K mg base CX0 2 f fd ["_law_one", "_law_other"] (spTimesL K) := by
  refine F.ok scLawTimes (fun vs H Q E h => ?_) (fun cdv A outer s H vs Q E hr h => ?_)
  · obtain ⟨a, b, one, other, c, rfl, _⟩ := h
    rfl
  obtain ⟨a, b, one, other, c, rfl, Ra, Rb, l1, l2, hc1, hc2, c9, q⟩ := h
  have hsz : 1000000 < sizeLine := by decide
  refine ⟨_, (pss_cons (ps_set (i := 2) scLawTimes.nd rfl (by first | exact Or.inl rfl | exact Or.inr rfl) (pe_op op_rep (pe_lst (pa_cons pe_int pa_nil)) (pe_op op_add (pe_callB call_len_seq (by rfl) T.len PySem.boot_len (pa_cons (pv 0) pa_nil)) (pe_callB call_len_seq (by rfl) T.len PySem.boot_len (pa_cons (pv 1) pa_nil)))))
 (pss_cons (ps_for PassesOwn.never rfl (pi_enum (by rfl) T.enum (pa_cons (pv 0) pa_nil)) (pg_tup (by rfl) (pgs_cons (pg_name (i := 3) scLawTimes.nd rfl (by first | exact Or.inl rfl | exact Or.inr rfl)) (pgs_cons (pg_name (i := 4) scLawTimes.nd rfl (by first | exact Or.inl rfl | exact Or.inr rfl)) pgs_nil)))
 (pss_one (ps_for PassesOwn.never rfl (pi_enum (by rfl) T.enum (pa_cons (pv 1) pa_nil)) (pg_tup (by rfl) (pgs_cons (pg_name (i := 5) scLawTimes.nd rfl (by first | exact Or.inl rfl | exact Or.inr rfl)) (pgs_cons (pg_name (i := 6) scLawTimes.nd rfl (by first | exact Or.inl rfl | exact Or.inr rfl)) pgs_nil)))
 (pss_one (ps_asg (pe_op op_add (pe_ix ix_list (pv 2) (pe_op op_add (pv 3) (pv 5)) (fun _ _ => rfl)) (pe_op op_mulX (pv 4) (pv 6))) (pg_sub (pv 2) (pe_op op_add (pv 3) (pv 5)) set_list))))))
 (pss_one (ps_ret (pe_call GT.ok (hr.mono (by decide)) (by rfl) GT.m GT.kp GT.b .nil pass0 (pa_cons (pv 2) pa_nil)))))), ?_⟩
  refine ⟨(by show 1 ≤ sizeLine; decide), fun z0 hz0 => ?_⟩
  have s0 := same_upd hz0 (.lst [V.int 0])
  refine ⟨_, rfl, a, _, rfl, .inl (s0.seq Ra), _, rfl, b, _, rfl, .inl (s0.seq Rb), _, _, rfl, rfl, z0, _, _, rfl, rfl, upd_same, (by rw [List.length_map, List.length_map]; omega), (by rw [List.length_map, List.length_map]; omega), (by rw [List.length_map, List.length_map]; show 1 * _ ≤ _; omega), fun m hm' => ?_⟩
  have en : (((iv one).length : Int) + ((iv other).length : Int)).toNat = one.length + other.length := by rw [List.length_map, List.length_map]; omega
  rw [en, rep_one]
  have hm : H m = none := s0.free hm'
  have s2 := s0.trans (same_upd hm' (.lst (List.replicate (one.length + other.length) (V.int 0))))
  have hm2 : upd (upd H z0 (.lst [V.int 0])) m (.lst (List.replicate (one.length + other.length) (V.int 0))) m = some (.lst (iv (tab (fun _ => 0) (one.length + other.length)))) := by
    rw [upd_same]
    congr 2
    unfold tab
    show _ = List.map V.int (List.map _ _)
    rw [List.map_map]
    refine List.ext_getElem (by simp) fun i h1 h2 => by simp
  generalize upd (upd H z0 (.lst [V.int 0])) m (.lst (List.replicate (one.length + other.length) (V.int 0))) = H2 at s2 hm2 ⊢
  refine ⟨_, rfl, a, _, rfl, s2.seq Ra, ?_⟩
  have hat : ∀ {g : Nat → Int} {i : Nat} {z : Int}, z = (i : Int) → i < one.length + other.length → atI (iv (tab g (one.length + other.length))) z = some (.int (g i)) := fun hz hi => by
    rw [hz]; exact atI_nat (tab_get hi)
  refine for_it walk_enum (fun k σ H3 => (∃ v3 v4 v5 v6, σ = [some (.ref a), some (.ref b), some (.ref m), v3, v4, v5, v6]) ∧ Same H H3 ∧ H3 m = some (.lst (iv (tab (pP one other k) (one.length + other.length)))))
    ⟨⟨none, none, none, none, rfl⟩, s2, ?_⟩ (fun k σ H3 _ h => h.2.1.seq Ra) ?_ ?_
  · rw [hm2]
    congr 3
  · rintro k v σ H3 H4 hk ⟨⟨v3, v4, v5, v6, rfl⟩, s3, hm3⟩ ⟨t, y, z, rfl, ht, rfl, hy, hz⟩
    cases hy
    obtain ⟨hk', rfl⟩ := iv_get hz
    have tm : m ≠ t := ne_of_none hm3 ht
    have s4 := s3.trans (same_upd ht (.tup [.int (k : Nat), .int (SerM.co one k)]))
    have hm4 : upd H3 t (.tup [.int (k : Nat), .int (SerM.co one k)]) m = _ := (upd_ne tm).trans hm3
    refine ⟨t, _, rfl, SqT.of upd_same, rfl, _, _, rfl, _, _, rfl, rfl, ?_⟩
    generalize upd H3 t (.tup [.int (k : Nat), .int (SerM.co one k)]) = H5 at s4 hm4 ⊢
    refine ⟨_, rfl, b, _, rfl, s4.seq Rb, ?_⟩
    refine for_it walk_enum (fun j σ H6 => (∃ v5 v6, σ = [some (.ref a), some (.ref b), some (.ref m), some (.int (k : Int)), some (.int (SerM.co one k)), v5, v6]) ∧ Same H H6 ∧ H6 m = some (.lst (iv (tab (fun i => pP one other k i + if k ≤ i ∧ i < k + j then SerM.co one k * SerM.co other (i - k) else 0) (one.length + other.length)))))
      ⟨⟨v5, v6, rfl⟩, s4, ?_⟩ (fun j σ H6 _ h => h.2.1.seq Rb) ?_ ?_
    · rw [hm4]
      congr 3
      exact tab_eq fun i _ => by rw [if_neg (by omega)]; omega
    · rintro j v σ H6 H7 hj ⟨⟨v5, v6, rfl⟩, s6, hm6⟩ ⟨t, y, z, rfl, ht, rfl, hy, hz⟩
      cases hy
      obtain ⟨hj', rfl⟩ := iv_get hz
      have tm : m ≠ t := ne_of_none hm6 ht
      have s7 := s6.trans (same_upd ht (.tup [.int (j : Nat), .int (SerM.co other j)]))
      have hm7 : upd H6 t (.tup [.int (j : Nat), .int (SerM.co other j)]) m = _ := (upd_ne tm).trans hm6
      refine ⟨t, _, rfl, SqT.of upd_same, rfl, _, _, rfl, _, _, rfl, rfl, ?_⟩
      generalize upd H6 t (.tup [.int (j : Nat), .int (SerM.co other j)]) = H8 at s7 hm7 ⊢
      have ij : k + j < one.length + other.length := by omega
      have ei : (k : Int) + (j : Int) = ((k + j : Nat) : Int) := by omega
      refine ⟨_, rfl, _, rfl, _, rfl, _, _, rfl, rfl, m, _, _, _, rfl, rfl, SqL.of hm7, hat (i := k + j) ei ij, ?_⟩
      refine ⟨_, rfl, _, rfl, _, _, rfl, rfl, ?_, _, _, rfl, rfl, _, rfl, _, rfl, _, rfl, _, _, rfl, rfl, m, _, _, k + j, rfl, rfl, hm7, ixN_nat (by rw [List.length_map, tab_len]; exact ij) ei, ?_⟩
      · have b1 := bits_le (hc1 k)
        have b2 := bits_le (hc2 j)
        show (_ : Int) + _ ≤ 134217728
        omega
      · refine ⟨⟨_, _, rfl⟩, fun o ob hb => ?_, ?_⟩
        · rw [upd_ne (ne_of_none hb hm)]; exact s7 _ _ hb
        · rw [upd_same]
          have := tab_set (fun i => pP one other k i + if k ≤ i ∧ i < k + j then SerM.co one k * SerM.co other (i - k) else 0) (one.length + other.length) (k + j) (pP one other k (k + j) + (if k ≤ k + j ∧ k + j < k + j then SerM.co one k * SerM.co other (k + j - k) else 0) + SerM.co one k * SerM.co other j)
          refine congrArg (fun z => some (HO.lst z)) (this.trans ?_)
          congr 1
          refine tab_eq fun i hi => ?_
          by_cases e : i = k + j
          · subst e
            rw [if_pos rfl, if_neg (by omega), if_pos (by omega), show k + j - k = j by omega]; omega
          · rw [if_neg e]
            by_cases e2 : k ≤ i ∧ i < k + j
            · rw [if_pos e2, if_pos (by omega)]
            · rw [if_neg e2, if_neg (by omega)]
    · rintro σ H6 ⟨⟨v5, v6, rfl⟩, s6, hm6⟩
      refine ⟨⟨_, _, _, _, rfl⟩, s6, ?_⟩
      rw [hm6]
      congr 3
      refine tab_eq fun i hi => ?_
      rw [pP_step hk', List.length_map]
      by_cases e : k ≤ i ∧ i < k + other.length
      · rw [if_pos e, if_pos e.1]
      · rw [if_neg e]
        by_cases e2 : k ≤ i
        · rw [if_pos e2, SerM.co_len (p := other) (by omega)]; omega
        · rw [if_neg e2]
  · rintro σ H3 ⟨⟨v3, v4, v5, v6, rfl⟩, s3, hm3⟩
    rw [List.length_map] at hm3
    refine ⟨_, rfl, m, _, rfl, SqL.of hm3, by rw [tab_len]; omega, fun m2 H4 s4 hm2' h4 => ?_⟩
    refine q m2 H4 (s3.trans s4) (s3.free hm2') ?_
    rw [h4]
    congr 3
    refine tab_trim (fun i hi => by unfold pP; rw [List.take_length]) fun i hi => SerM.mul_len0 _ _ _ (by omega)
theorem co_snoc (p : SerM.Po) (t : Int) (i : Nat) : SerM.co (p ++ [t]) i = if i < p.length then SerM.co p i else if i = p.length then t else 0 := by
  unfold SerM.co
  rw [List.getD_eq_getElem?_getD, List.getElem?_append]
  split
  · rw [List.getD_eq_getElem?_getD]
  · rename_i h
    split
    · rename_i e
      rw [e, Nat.sub_self]; rfl
    · rw [List.getElem?_eq_none (by show 1 ≤ _; omega)]; rfl
/-! ### draws -/
abbrev sLawCells : Stmt := top 60
def spCellsL : Sp := fun vs H Q _ => ∃ (b c : Addr) (n : Nat) (wd : Int), vs = [.ref b, .int (n : Int), .int wd] ∧ Bag H b c ∧ n ≤ 100 ∧ 0 ≤ wd ∧ wd ≤ 1000 ∧
  ∀ (m : Addr) (p : SerM.Po) (H' : Hp), Bag H' b c → Kp b H H' → H m = none → H' m = some (.lst (iv p)) → p.length = n → (∀ i, ((SerM.co p i).natAbs : Int) ≤ wd) → Q (.ref m) H'
theorem scLawCells : FnScope ["_law_bag_here", "_law_many", "_law_wide", "_law_k"] ["_law_bag_here", "_law_many", "_law_wide"] (defScope sLawCells) := ⟨rfl, rfl, rfl, by decide +kernel, rfl, by decide +kernel, by decide +kernel⟩
theorem ok_cellsL {f g : Addr} {fd gd : FuncData} (F : Fun K "_law_cells" "_law_cells" sLawCells f fd) (T : LawT mg) (GP : Df P w K mg base 1 g gd "_law_pull" ["_law_bag_here", "_law_many"] spPull) : FnOk P w K mg base CX0 2 f fd ["_law_bag_here", "_law_many", "_law_wide"] spCellsL := by
  refine F.ok scLawCells (fun vs H Q E h => ?_) (fun cdv A outer s H vs Q E hr h => ?_)
  · obtain ⟨b, c, n, wd, rfl, _⟩ := h
    rfl
  obtain ⟨b, c, n, wd, rfl, B, hn, w0, w1, q⟩ := h
  have hsz : 1000000 < sizeLine := by decide
  refine ⟨_, (pss_one (ps_ret (pe_lc (own := [("_law_k", 3)]) (g := (gName 3)) rfl scLawCells.nd (pi_range1 (by rfl) T.range (pa_cons (pv 1) pa_nil)) (blkOk_by (own := [("_law_k", 3)]) (N := ["_law_bag_here", "_law_many", "_law_wide", "_law_k"]) (sc := defScope sLawCells) (by decide +kernel)) (fun _ _ _ _ _ => (pg_name (i := 3) scLawCells.nd rfl (Or.inl rfl) (Or.inr rfl))) (fun _ _ _ _ _ => pts_nil) (fun _ _ _ _ _ => (pe_op op_sub (pe_call GP.ok (hr.mono (by decide)) (by rfl) GP.m GP.kp GP.b .nil pass0 (pa_cons (pv 0) (pa_cons (pe_op op_add (pe_op op_mul pe_int (pv 2)) pe_int) pa_nil))) (pv 2)))))), ?_⟩
  refine ⟨_, rfl, _, rfl, (by omega), (by omega), fun D hD => ?_⟩
  refine lc_it (walk_range (lo := 0)) (fun i H2 => Bag H2 b c ∧ Kp b H H2 ∧ ∃ p : SerM.Po, H2 D = some (.lst (iv p)) ∧ p.length = i ∧ ∀ i, ((SerM.co p i).natAbs : Int) ≤ wd)
    ⟨B.upd_new hD _, Same.kp (same_upd hD (.lst [])), [], upd_same, rfl, fun i => by rw [SerM.co_nil]; omega⟩ (fun _ _ _ _ => trivial) (fun i x H2 H3 hi ⟨B2, k2, p, h2, pl, pb⟩ ⟨e1, e2⟩ => ?_) (fun H2 ⟨B2, k2, p, h2, pl, pb⟩ => ?_)
  · subst e1 e2
    have nD : D ≠ b := iv_bag B2 h2
    refine ⟨rfl, _, rfl, _, rfl, _, _, rfl, rfl, .inl ⟨by decide, by decide⟩, _, _, rfl, rfl, b, c, _, rfl, B2, by omega, by omega, fun d H4 d0 d1 B4 k4 => ?_⟩
    refine ⟨_, rfl, _, _, rfl, rfl, _, k4 _ _ h2 nD, by rw [List.length_map]; omega, ?_⟩
    have h4 := k4 _ _ h2 nD
    refine ⟨B4.wr (B.ne_new hD) _, (k2.trans k4).wr hD _, p ++ [d - wd], ?_, ?_, ?_⟩
    · rw [upd_same]; simp [iv]
    · rw [List.length_append, pl]; rfl
    · intro j
      rw [co_snoc]
      split
      · exact pb j
      · split <;> omega
  · rw [Int.toNat_natCast] at pl
    exact q D p H2 B2 k2 hD h2 pl pb
abbrev sLawPair : Stmt := top 61
theorem Kp.freeS {b c p : Addr} {H H' : Hp} (k : Kp b H H') (B : Bag H b c) (h : H' p = none) (nb : p ≠ b) : H p = none := by
  cases e : H p with
  | none => rfl
  | some o => rw [k p o e nb] at h; cases h
def spPairL : Sp := fun vs H Q _ => ∃ (b c : Addr) (n : Nat) (wd : Int), vs = [.ref b, .int (n : Int), .int wd] ∧ Bag H b c ∧ 1 ≤ n ∧ n ≤ 50 ∧ 1 ≤ wd ∧ wd ≤ 1000 ∧
  ∀ (t x y : Addr) (p q : SerM.Po) (H' : Hp), Bag H' b c → Kp b H H' → H t = none → H x = none → H y = none → H' t = some (.tup [.ref x, .ref y]) → H' x = some (.lst (iv p)) → H' y = some (.lst (iv (1 :: q))) → p.length ≤ n → q.length + 1 ≤ n → (∀ i, ((SerM.co p i).natAbs : Int) ≤ wd) → (∀ i, ((SerM.co (1 :: q) i).natAbs : Int) ≤ wd) → Q (.ref t) H'
theorem scLawPair : FnScope ["_law_bag_here", "_law_many", "_law_wide"] ["_law_bag_here", "_law_many", "_law_wide"] (defScope sLawPair) := ⟨rfl, rfl, rfl, by decide +kernel, rfl, by decide +kernel, by decide +kernel⟩
theorem ok_pairL {f g1 g2 : Addr} {fd d1 d2 : FuncData} (F : Fun K "_law_pair" "_law_pair" sLawPair f fd) (GP : Df P w K mg base 1 g1 d1 "_law_pull" ["_law_bag_here", "_law_many"] spPull) (GC : Df P w K mg base 2 g2 d2 "_law_cells" ["_law_bag_here", "_law_many", "_law_wide"] spCellsL) : FnOk P w K mg base CX0 3 f fd ["_law_bag_here", "_law_many", "_law_wide"] spPairL := by
  refine F.ok scLawPair (fun vs H Q E h => ?_) (fun cdv A outer s H vs Q E hr h => ?_)
  · obtain ⟨b, c, n, wd, rfl, _⟩ := h
    rfl
  obtain ⟨b, c, n, wd, rfl, B, n1, n5, w1, w9, q⟩ := h
  have hsz : 1000000 < sizeLine := by decide
  refine ⟨_, (pss_one (ps_ret (pe_tup (pa_cons (pe_call GC.ok (hr.mono (by decide)) (by rfl) GC.m GC.kp GC.b .nil pass0 (pa_cons (pv 0) (pa_cons (pe_call GP.ok (hr.mono (by decide)) (by rfl) GP.m GP.kp GP.b .nil pass0 (pa_cons (pv 0) (pa_cons (pe_op op_add (pv 1) pe_int) pa_nil))) (pa_cons (pv 2) pa_nil)))) (pa_cons (pe_op op_cat (pe_lst (pa_cons pe_int pa_nil)) (pe_call GC.ok (hr.mono (by decide)) (by rfl) GC.m GC.kp GC.b .nil pass0 (pa_cons (pv 0) (pa_cons (pe_call GP.ok (hr.mono (by decide)) (by rfl) GP.m GP.kp GP.b .nil pass0 (pa_cons (pv 0) (pa_cons (pv 1) pa_nil))) (pa_cons (pv 2) pa_nil))))) pa_nil))))), ?_⟩
  refine ⟨_, rfl, _, rfl, _, rfl, _, _, rfl, rfl, b, c, _, rfl, B, by omega, by omega, fun d H1 d0 d1 B1 k1 => ?_⟩
  obtain ⟨d, rfl⟩ : ∃ e : Nat, d = (e : Int) := ⟨d.toNat, by omega⟩
  refine ⟨_, rfl, b, c, d, wd, rfl, B1, by omega, by omega, w9, fun x p H2 B2 k2 hx h2 pl pb => ?_⟩
  refine ⟨(by show 1 ≤ sizeLine; decide), fun z hz => ?_⟩
  have B3 := B2.upd_new hz (.lst [V.int 1])
  have h3x : upd H2 z (.lst [V.int 1]) x = some (.lst (iv p)) := by rw [upd_ne (ne_of_none h2 hz)]; exact h2
  have h3z : upd H2 z (.lst [V.int 1]) z = some (.lst (iv [1])) := upd_same
  have k3 := (k1.trans k2).trans (Same.kp (same_upd hz (.lst [V.int 1])))
  generalize upd H2 z (.lst [V.int 1]) = H3 at B3 h3x h3z k3 ⊢
  refine ⟨_, rfl, _, rfl, _, rfl, b, c, _, rfl, B3, by omega, by omega, fun e H4 e0 e1 B4 k4 => ?_⟩
  obtain ⟨e, rfl⟩ : ∃ k : Nat, e = (k : Int) := ⟨e.toNat, by omega⟩
  refine ⟨_, rfl, b, c, e, wd, rfl, B4, by omega, by omega, w9, fun y r H5 B5 k5 hy h5 rl rb => ?_⟩
  have nx := iv_bag B3 h3x
  have nz := iv_bag B3 h3z
  have h5x := k5 _ _ (k4 _ _ h3x nx) nx
  have h5z := k5 _ _ (k4 _ _ h3z nz) nz
  refine ⟨z, y, _, _, rfl, rfl, h5z, h5, (by rw [List.length_map, List.length_map, rl]; show 1 + e ≤ _; omega), fun m hm => ?_⟩
  have em : iv [1] ++ iv r = iv (1 :: r) := rfl
  rw [em]
  have B6 := B5.upd_new hm (.lst (iv (1 :: r)))
  have k6 := ((k3.trans k4).trans k5).trans (Same.kp (same_upd hm (.lst (iv (1 :: r)))))
  have h6x : upd H5 m (.lst (iv (1 :: r))) x = some (.lst (iv p)) := by rw [upd_ne (ne_of_none h5x hm)]; exact h5x
  have h6m : upd H5 m (.lst (iv (1 :: r))) m = some (.lst (iv (1 :: r))) := upd_same
  have nm := B5.fresh hm
  have hm0 := ((k3.trans k4).trans k5).freeS B hm nm
  generalize upd H5 m (.lst (iv (1 :: r))) = H6 at B6 k6 h6x h6m ⊢
  refine ⟨(by show 2 ≤ sizeLine; decide), fun t ht => ?_⟩
  refine q t x m p r _ (B6.upd_new ht _) (k6.trans (Same.kp (same_upd ht (.tup [.ref x, .ref m])))) (k6.freeS B ht (B6.fresh ht)) (k1.freeS B hx nx) hm0 upd_same (by rw [upd_ne (ne_of_none h6x ht)]; exact h6x) (by rw [upd_ne (ne_of_none h6m ht)]; exact h6m) (by omega) (by omega) pb fun i => ?_
  cases i with
  | zero => show ((1 : Int).natAbs : Int) ≤ wd; omega
  | succ i => exact rb i
end
end Un
namespace Un
open PySem L2 TL
section
variable {P : Program} {w : World} {K : PySem.W.Frag} {mg : Str → Option Value} {base : Heap}
abbrev sLawRest : Stmt := top 62
theorem last_at {o : SerM.Po} (t : SerM.Tm o) (n : o ≠ []) : atI (iv o) (-1) = some (.int (o.getLastD 0)) := by
  have l : 1 ≤ o.length := List.length_pos_iff.mpr n
  have h := take_at l (Nat.le_refl o.length)
  rw [List.take_length] at h
  rw [h, SerM.lastD_tm n, ← (SerM.tm_lead t n).at_]
theorem zp_bd {o : SerM.Po} {B : Nat} (hB : 0 < B) (h : ∀ i, (SerM.co o i).natAbs < B) : ∀ (k i : Nat), (SerM.co (SerM.zp k o) i).natAbs < B
  | 0, i => h i
  | k + 1, 0 => hB
  | k + 1, i + 1 => zp_bd hB h k i
theorem lastD_bd {o : SerM.Po} {B : Nat} (t : SerM.Tm o) (n : o ≠ []) (h : ∀ i, (SerM.co o i).natAbs < B) : (o.getLastD 0).natAbs < B := by
  rw [SerM.lastD_tm n, ← (SerM.tm_lead t n).at_]; exact h _
theorem mul_lt2 {a b : Int} {e d : Nat} (ha : a.natAbs < 2 ^ e) (hb : b.natAbs < 2 ^ d) : (a * b).natAbs < 2 ^ (e + d) := by
  rw [Int.natAbs_mul, Nat.pow_add]
  exact Nat.mul_lt_mul'' ha hb
theorem step_at (g o : SerM.Po) (i : Nat) : SerM.co (SerM.add (SerM.smul (o.getLastD 0) g) (SerM.smul (-(g.getLastD 0)) (SerM.zp (g.length - o.length) o))) i = SerM.co g i * o.getLastD 0 - g.getLastD 0 * SerM.co (SerM.zp (g.length - o.length) o) i := by
  rw [SerM.co_add, SerM.co_smul, SerM.co_smul]
  grind
theorem step_bd {g o : SerM.Po} {e d : Nat} (tg : SerM.Tm g) (to : SerM.Tm o) (ng : g ≠ []) (no : o ≠ []) (hg : ∀ i, (SerM.co g i).natAbs < 2 ^ e) (ho : ∀ i, (SerM.co o i).natAbs < 2 ^ d) (i : Nat) : (SerM.co (SerM.step g o) i).natAbs < 2 ^ (e + d + 1) := by
  unfold SerM.step
  rw [SerM.trim_co, step_at]
  have h1 := mul_lt2 (hg i) (lastD_bd to no ho)
  have h2 := mul_lt2 (lastD_bd tg ng hg) (zp_bd (Nat.pow_pos (by decide)) ho (g.length - o.length) i)
  rw [Nat.pow_succ]
  omega
def spRestL (K : PySem.W.Frag) : Sp := fun vs H Q _ => ∃ (a b : Addr) (f o : SerM.Po) (M : Nat), vs = [.ref a, .ref b] ∧ SqL K H a (iv f) ∧ SqL K H b (iv o) ∧ SerM.Tm f ∧ SerM.Tm o ∧ o ≠ [] ∧ f.length ≤ 400 ∧ o.length ≤ 400 ∧ (∀ i, (SerM.co f i).natAbs < 2 ^ M) ∧ (∀ i, (SerM.co o i).natAbs < 2 ^ M) ∧ (M + 1) * (f.length + 4) ≤ 134217728 ∧
  ((∀ i, (SerM.co (SerM.rest f.length f o) i).natAbs < 2 ^ (M + (f.length + 1 - o.length) * (M + 1))) → Out H (SerM.rest f.length f o) Q)
theorem scLawRest : FnScope ["_law_one", "_law_other", "_law_found", "_law_k", "_law_wide", "_law_cell", "_law_late"] ["_law_one", "_law_other"] (defScope sLawRest) := ⟨rfl, rfl, rfl, by decide +kernel, rfl, by decide +kernel, by decide +kernel⟩
theorem ok_restL {f g : Addr} {fd gd : FuncData} (F : Fun K "_law_rest" "_law_rest" sLawRest f fd) (T : LawT mg) (GT : Df P w K mg base 1 g gd "_law_trim" ["_law_cells_here"] (spTrimL K)) : FnOk P w K mg base CX0 2 f fd ["_law_one", "_law_other"] (spRestL K) := by
  refine F.ok scLawRest (fun vs H Q E h => ?_) (fun cdv A outer s H vs Q E hr h => ?_)
  · obtain ⟨a, b, p, o, M, rfl, _⟩ := h
    rfl
  obtain ⟨a, b, p, o, M, rfl, Ra, Rb, tp, to, no, pl, ol, hp, ho, hM, q⟩ := h
  have hsz : 1000000 < sizeLine := by decide
  have ol0 : 1 ≤ o.length := List.length_pos_iff.mpr no
  refine ⟨_, (pss_cons (ps_set (i := 2) scLawRest.nd rfl (by first | exact Or.inl rfl | exact Or.inr rfl) (pe_call GT.ok (hr.mono (by decide)) (by rfl) GT.m GT.kp GT.b .nil pass0 (pa_cons (pv 0) pa_nil)))
 (pss_cons (ps_for PassesOwn.never rfl (pi_range1 (by rfl) T.range (pa_cons (pe_callB call_len_seq (by rfl) T.len PySem.boot_len (pa_cons (pv 0) pa_nil)) pa_nil)) (pg_name (i := 3) scLawRest.nd rfl (by first | exact Or.inl rfl | exact Or.inr rfl))
 (pss_one (ps_if (pt_cmpR op_ge (pe_callB call_len_seq (by rfl) T.len PySem.boot_len (pa_cons (pv 2) pa_nil)) (pe_callB call_len_seq (by rfl) T.len PySem.boot_len (pa_cons (pv 1) pa_nil)) (nomark _))
 (pss_cons (ps_set (i := 4) scLawRest.nd rfl (by first | exact Or.inl rfl | exact Or.inr rfl) (pe_op op_cat (pe_op op_rep (pe_lst (pa_cons pe_int pa_nil)) (pe_op op_sub (pe_callB call_len_seq (by rfl) T.len PySem.boot_len (pa_cons (pv 2) pa_nil)) (pe_callB call_len_seq (by rfl) T.len PySem.boot_len (pa_cons (pv 1) pa_nil)))) (pe_callTy call_list_of (by rfl) T.list (by decide +kernel) (pa_cons (pv 1) pa_nil))))
 (pss_one (ps_set (i := 2) scLawRest.nd rfl (by first | exact Or.inl rfl | exact Or.inr rfl) (pe_call GT.ok (hr.mono (by decide)) (by rfl) GT.m GT.kp GT.b .nil pass0 (pa_cons (pe_lc (own := [("_law_cell", 5), ("_law_late", 6)]) (g := (gTup K 2 (gCons (gName 5) (gCons (gName 6) gNil)))) rfl scLawRest.nd (pi_zip (by rfl) T.zip (pa_cons (pv 2) (pa_cons (pv 4) pa_nil))) (blkOk_by (own := [("_law_cell", 5), ("_law_late", 6)]) (N := ["_law_one", "_law_other", "_law_found", "_law_k", "_law_wide", "_law_cell", "_law_late"]) (sc := defScope sLawRest) (by decide +kernel)) (fun _ _ _ _ _ => (pg_tup (n := 2) rfl (pgs_cons (pg_name (i := 5) scLawRest.nd rfl (Or.inl rfl) (Or.inr rfl)) (pgs_cons (pg_name (i := 6) scLawRest.nd rfl (Or.inl rfl) (Or.inr rfl)) pgs_nil)))) (fun _ _ _ _ _ => pts_nil) (fun _ _ _ _ _ => (pe_op op_sub (pe_op op_mulX (pv 5) (pe_ix (ixL (K := K) rfl) (pv 1) (pe_un un_neg pe_int) (fun _ _ => rfl))) (pe_op op_mulX (pe_ix (ixL (K := K) rfl) (pv 2) (pe_un un_neg pe_int) (fun _ _ => rfl)) (pv 6))))) pa_nil)))))
 pss_nil)))
 (pss_one (ps_ret (pv 2))))), ?_⟩
  refine ⟨_, rfl, a, p, rfl, Ra, by omega, fun x H1 s1 hx h1 => ?_⟩
  rw [SerM.trim_id tp] at h1
  refine ⟨_, rfl, a, _, rfl, .inl (s1.seq Ra), _, rfl, (by rw [List.length_map]; omega), (by rw [List.length_map]; omega), ?_⟩
  rw [List.length_map]
  refine for_it (walk_range (lo := 0)) (fun i σ H2 => ∃ (m : Addr) (g : SerM.Po) (e : Nat) (v3 v4 v5 v6 : Option V), σ = [some (.ref a), some (.ref b), some (.ref m), v3, v4, v5, v6] ∧ Same H H2 ∧ H m = none ∧ H2 m = some (.lst (iv g)) ∧ SerM.Tm g ∧ g.length ≤ p.length ∧ SerM.rest (p.length - i) g o = SerM.rest p.length p o ∧ (∀ i, (SerM.co g i).natAbs < 2 ^ e) ∧ e + (g.length + 1 - o.length) * (M + 1) ≤ M + (p.length + 1 - o.length) * (M + 1))
    ⟨x, p, M, none, none, none, none, rfl, s1, hx, h1, tp, Nat.le_refl _, by rw [Nat.sub_zero], hp, Nat.le_refl _⟩ (fun _ _ _ _ _ => trivial) ?_ ?_
  · rintro i v σ H2 H3 hi ⟨m, g, e, v3, v4, v5, v6, rfl, s2, hm, h2, tg, gl, er, hg, hE⟩ ⟨rfl, rfl⟩
    rw [Int.toNat_natCast] at hi
    obtain ⟨n, hn⟩ : ∃ n, p.length - i = n + 1 := ⟨p.length - i - 1, by omega⟩
    have hn' : p.length - (i + 1) = n := by omega
    rw [hn] at er
    refine ⟨_, rfl, m, _, rfl, .inl (SqL.of h2), _, rfl, b, _, rfl, .inl (s2.seq Rb), _, _, rfl, rfl, _, rfl, ?_⟩
    rw [List.length_map, List.length_map]
    refine ite2 (fun c => ?pos) (fun c => ?neg)
    case neg =>
      have lt : ¬ o.length ≤ g.length := fun z => c (decide_eq_true (by omega))
      refine ⟨m, g, e, _, v4, v5, v6, rfl, s2, hm, h2, tg, gl, ?_, hg, hE⟩
      rw [hn', ← er]
      show _ = if o.length ≤ g.length then _ else _
      rw [if_neg lt]
    have le : o.length ≤ g.length := by have := of_decide_eq_true c; omega
    have ng : g ≠ [] := fun z => by rw [z] at le; have : o.length ≤ 0 := le; omega
    have er' : SerM.rest n (SerM.step g o) o = SerM.rest p.length p o := by
      rw [← er]
      show _ = if o.length ≤ g.length then _ else _
      rw [if_pos le]
    refine ⟨(by show 1 ≤ sizeLine; decide), fun z1 hz1 => ?_⟩
    have s3 := s2.trans (same_upd hz1 (.lst [V.int 0]))
    have h3 : upd H3 z1 (.lst [V.int 0]) m = some (.lst (iv g)) := by rw [upd_ne (ne_of_none h2 hz1)]; exact h2
    have h3z : upd H3 z1 (.lst [V.int 0]) z1 = some (.lst [V.int 0]) := upd_same
    generalize upd H3 z1 (.lst [V.int 0]) = H4 at s3 h3 h3z ⊢
    refine ⟨_, rfl, m, _, rfl, .inl (SqL.of h3), _, rfl, b, _, rfl, .inl (s3.seq Rb), _, _, rfl, rfl, z1, _, _, rfl, rfl, h3z, (by rw [List.length_map, List.length_map]; omega), (by rw [List.length_map, List.length_map]; omega), (by rw [List.length_map, List.length_map]; show 1 * _ ≤ _; omega), fun z2 hz2 => ?_⟩
    have en : (((iv g).length : Int) - ((iv o).length : Int)).toNat = g.length - o.length := by rw [List.length_map, List.length_map]; omega
    rw [en, rep_one]
    have s4 := s3.trans (same_upd hz2 (.lst (List.replicate (g.length - o.length) (V.int 0))))
    have h4 : upd H4 z2 (.lst (List.replicate (g.length - o.length) (V.int 0))) m = some (.lst (iv g)) := by rw [upd_ne (ne_of_none h3 hz2)]; exact h3
    have h4z : upd H4 z2 (.lst (List.replicate (g.length - o.length) (V.int 0))) z2 = some (.lst (List.replicate (g.length - o.length) (V.int 0))) := upd_same
    generalize upd H4 z2 (.lst (List.replicate (g.length - o.length) (V.int 0))) = H5 at s4 h4 h4z ⊢
    refine ⟨_, rfl, b, _, rfl, .inl (s4.seq Rb), fun z3 hz3 => ?_⟩
    have s5 := s4.trans (same_upd hz3 (.lst (iv o)))
    have h5 : upd H5 z3 (.lst (iv o)) m = some (.lst (iv g)) := by rw [upd_ne (ne_of_none h4 hz3)]; exact h4
    have h5z : upd H5 z3 (.lst (iv o)) z2 = some (.lst (List.replicate (g.length - o.length) (V.int 0))) := by rw [upd_ne (ne_of_none h4z hz3)]; exact h4z
    have h5o : upd H5 z3 (.lst (iv o)) z3 = some (.lst (iv o)) := upd_same
    generalize upd H5 z3 (.lst (iv o)) = H6 at s5 h5 h5z h5o ⊢
    refine ⟨z2, z3, _, _, rfl, rfl, h5z, h5o, (by rw [List.length_replicate, List.length_map]; omega), fun z4 hz4 => ?_⟩
    rw [← iv_zp]
    have s6 := s5.trans (same_upd hz4 (.lst (iv (SerM.zp (g.length - o.length) o))))
    have h6 : upd H6 z4 (.lst (iv (SerM.zp (g.length - o.length) o))) m = some (.lst (iv g)) := by rw [upd_ne (ne_of_none h5 hz4)]; exact h5
    have h6z : upd H6 z4 (.lst (iv (SerM.zp (g.length - o.length) o))) z4 = some (.lst (iv (SerM.zp (g.length - o.length) o))) := upd_same
    generalize upd H6 z4 (.lst (iv (SerM.zp (g.length - o.length) o))) = H7 at s6 h6 h6z ⊢
    have zl : (SerM.zp (g.length - o.length) o).length = g.length := by rw [zp_len]; omega
    refine ⟨_, rfl, _, rfl, m, z4, _, _, rfl, SqL.of h6, SqL.of h6z, fun D hD => ?_⟩
    let G : Nat → Int := fun i => SerM.co g i * o.getLastD 0 - g.getLastD 0 * SerM.co (SerM.zp (g.length - o.length) o) i
    refine lc_it (walk_zip (n := g.length) (by rw [List.length_map, List.length_map, zl, Nat.min_self])) (fun i H8 => Same H7 H8 ∧ H8 D = some (.lst (iv (tab G i)))) ⟨same_upd hD _, upd_same⟩ (fun i H8 _ h => ⟨h.1.seq (SqL.of h6), h.1.seq (SqL.of h6z)⟩) ?_ ?_
    · rintro j v H8 H9 hj ⟨s8, h8⟩ ⟨t, y, z, rfl, ht, rfl, hy, hz⟩
      obtain ⟨hy1, rfl⟩ := iv_get hy
      obtain ⟨hz1', rfl⟩ := iv_get hz
      have tD : D ≠ t := ne_of_none h8 ht
      have s9 := s8.trans (same_upd ht (.tup [.int (SerM.co g j), .int (SerM.co (SerM.zp (g.length - o.length) o) j)]))
      have h9 : upd H8 t (.tup [.int (SerM.co g j), .int (SerM.co (SerM.zp (g.length - o.length) o) j)]) D = some (.lst (iv (tab G j))) := by rw [upd_ne tD]; exact h8
      refine ⟨t, _, rfl, SqT.of upd_same, rfl, _, _, rfl, _, _, rfl, rfl, rfl, ?_⟩
      generalize upd H8 t (.tup [.int (SerM.co g j), .int (SerM.co (SerM.zp (g.length - o.length) o) j)]) = H10 at s9 h9 ⊢
      have eb := bits_le (hg j)
      have lb := bits_le (lastD_bd to no ho)
      have lg := bits_le (lastD_bd tg ng hg)
      have zb := bits_le (zp_bd (Nat.pow_pos (by decide)) ho (g.length - o.length) j)
      have hE2 : e ≤ M + (p.length + 1 - o.length) * (M + 1) := Nat.le_trans (Nat.le_add_right _ _) hE
      have hE3 : (p.length + 1 - o.length) * (M + 1) ≤ (M + 1) * p.length := by rw [Nat.mul_comm]; exact Nat.mul_le_mul_left _ (by omega)
      have hE4 : (M + 1) * (p.length + 4) = (M + 1) * p.length + (M + 1) * 4 := Nat.mul_add _ _ _
      refine ⟨_, rfl, _, rfl, _, rfl, b, _, _, _, rfl, rfl, (s6.trans s9).seq Rb, last_at to no, _, _, rfl, rfl, ?_, ?_⟩
      · show (_ : Int) + _ ≤ 134217728
        omega
      refine ⟨_, rfl, _, rfl, m, _, _, _, rfl, rfl, s9.seq (SqL.of h6), last_at tg ng, _, rfl, _, _, rfl, rfl, ?_, _, _, rfl, rfl, ?_⟩
      · show (_ : Int) + _ ≤ 134217728
        omega
      refine ⟨_, h9, by rw [List.length_map, tab_len]; omega, fun a' o' ha' => ?_, ?_⟩
      · rw [upd_ne (ne_of_none ha' hD)]; exact s9 _ _ ha'
      · rw [upd_same, show tab G (j + 1) = tab G j ++ [G j] by unfold tab; rw [List.range_succ, List.map_append]; rfl]
        simp [iv, G]
    · rintro H8 ⟨s8, h8⟩
      refine ⟨D, tab G g.length, rfl, SqL.of h8, by rw [tab_len]; omega, fun m2 H9 s9 hm2 h9 => ?_⟩
      have est : SerM.trim (tab G g.length) = SerM.step g o := by
        unfold SerM.step
        refine tab_trim (fun i hi => (step_at g o i).symm) fun i hi => ?_
        rw [step_at, SerM.co_len hi, SerM.co_len (by rw [zl]; exact hi)]; omega
      rw [est] at h9
      have sl := SerM.step_len tg to no le
      have s79 := (s6.trans s8).trans s9
      refine ⟨m2, SerM.step g o, e + M + 1, _, _, v5, v6, rfl, s79, (s6.trans s8).free hm2, h9, SerM.trim_tm _, by omega, by rw [hn']; exact er', step_bd tg to ng no hg ho, ?_⟩
      have : ((SerM.step g o).length + 1 - o.length) * (M + 1) + (M + 1) ≤ (g.length + 1 - o.length) * (M + 1) := by
        rw [← Nat.succ_mul]
        exact Nat.mul_le_mul_right _ (by omega)
      omega
  · rintro σ H2 ⟨m, g, e, v3, v4, v5, v6, rfl, s2, hm, h2, tg, gl, er, hg, hE⟩
    have e0 : p.length - ((p.length : Int) - 0).toNat = 0 := by omega
    have eg : g = SerM.rest p.length p o := by
      rw [← er]
      have : p.length - ((p.length : Int)).toNat = 0 := by omega
      first
        | rw [this]; rfl
        | rw [e0]; rfl
    rw [← eg] at q
    refine ⟨_, rfl, q (fun i => Nat.lt_of_lt_of_le (hg i) (Nat.pow_le_pow_right (by decide) (Nat.le_trans (Nat.le_add_right _ _) hE))) m H2 s2 hm h2⟩
end
end Un
namespace Un
open PySem L2 TL
section
variable {P : Program} {w : World} {K : PySem.W.Frag} {mg : Str → Option Value} {base : Heap}
abbrev sLawCoprime : Stmt := top 63
theorem pow2_ge (n : Nat) : n + 1 ≤ 2 ^ n := by
  induction n with
  | zero => decide
  | succ n ih => rw [Nat.pow_succ]; omega
theorem pow2_ge2 (q : Nat) : 1 + q ≤ 2 ^ q := by rw [Nat.add_comm]; exact pow2_ge q
def spCopL (K : PySem.W.Frag) : Sp := fun vs H Q _ => ∃ (a b : Addr) (p q : SerM.Po) (M : Nat), vs = [.ref a, .ref b] ∧ SqL K H a (iv p) ∧ SqL K H b (iv q) ∧ SerM.Tm p ∧ SerM.Tm q ∧ p.length ≤ 200 ∧ q.length ≤ 200 ∧ (∀ i, (SerM.co p i).natAbs < 2 ^ M) ∧ (∀ i, (SerM.co q i).natAbs < 2 ^ M) ∧ (M + 1) * 2 ^ (p.length + q.length) ≤ 67108864 ∧
  ∀ H', Same H H' → Q (.bl (SerM.copr (p.length + q.length + 2) p q)) H'
theorem scLawCoprime : FnScope ["_law_one", "_law_other", "_law_first", "_law_second", "_law_k"] ["_law_one", "_law_other"] (defScope sLawCoprime) := ⟨rfl, rfl, rfl, by decide +kernel, rfl, by decide +kernel, by decide +kernel⟩
theorem ok_copL {f g1 g2 : Addr} {fd d1 d2 : FuncData} (F : Fun K "_law_coprime" "_law_coprime" sLawCoprime f fd) (T : LawT mg) (GT : Df P w K mg base 1 g1 d1 "_law_trim" ["_law_cells_here"] (spTrimL K)) (GR : Df P w K mg base 2 g2 d2 "_law_rest" ["_law_one", "_law_other"] (spRestL K)) : FnOk P w K mg base CX0 3 f fd ["_law_one", "_law_other"] (spCopL K) := by
  refine F.ok scLawCoprime (fun vs H Q E h => ?_) (fun cdv A outer s H vs Q E hr h => ?_)
  · obtain ⟨a, b, p, o, M, rfl, _⟩ := h
    rfl
  obtain ⟨a, b, p, o, M, rfl, Ra, Rb, tp, to, pl, ol, hp, ho, hM, q⟩ := h
  have hsz : 1000000 < sizeLine := by decide
  refine ⟨_, (pss_cons (ps_par (i := 2) (j := 3) rfl scLawCoprime.nd rfl rfl (by decide) rfl rfl (pa_cons (pe_call GT.ok (hr.mono (by decide)) (by rfl) GT.m GT.kp GT.b .nil pass0 (pa_cons (pv 0) pa_nil)) (pa_cons (pe_call GT.ok (hr.mono (by decide)) (by rfl) GT.m GT.kp GT.b .nil pass0 (pa_cons (pv 1) pa_nil)) pa_nil)) (by rfl))
 (pss_cons (ps_for PassesOwn.never rfl (pi_range1 (by rfl) T.range (pa_cons (pe_op op_add (pe_op op_add (pe_callB call_len_seq (by rfl) T.len PySem.boot_len (pa_cons (pv 0) pa_nil)) (pe_callB call_len_seq (by rfl) T.len PySem.boot_len (pa_cons (pv 1) pa_nil))) pe_int) pa_nil)) (pg_name (i := 4) scLawCoprime.nd rfl (by first | exact Or.inl rfl | exact Or.inr rfl))
 (pss_cons (ps_if (pt_cmpR (op_eqI hr.units) (pv 3) (pe_lst pa_nil) (nomark _))
 (pss_one (ps_ret (pe_cmpR op_eq (pe_callB call_len_seq (by rfl) T.len PySem.boot_len (pa_cons (pv 2) pa_nil)) pe_int (nomark _))))
 pss_nil)
 (pss_one (ps_par (i := 2) (j := 3) rfl scLawCoprime.nd rfl rfl (by decide) rfl rfl (pa_cons (pv 3) (pa_cons (pe_call GR.ok (hr.mono (by decide)) (by rfl) GR.m GR.kp GR.b .nil pass0 (pa_cons (pv 2) (pa_cons (pv 3) pa_nil))) pa_nil)) (by rfl)))))
 (pss_one (ps_ret pe_bl)))), ?_⟩
  refine ⟨_, rfl, a, p, rfl, Ra, by omega, fun x H1 s1 hx h1 => ?_⟩
  rw [SerM.trim_id tp] at h1
  refine ⟨_, rfl, b, o, rfl, s1.seq Rb, by omega, fun y H2 s2' hy h2 => ?_⟩
  rw [SerM.trim_id to] at h2
  have s2 := s1.trans s2'
  have h2x := s2' _ _ h1
  refine ⟨_, _, rfl, ?_⟩
  have s3 := s2
  have h3x := h2x
  have h3y := h2
  refine ⟨_, rfl, a, _, rfl, .inl (s3.seq Ra), _, rfl, b, _, rfl, .inl (s3.seq Rb), _, _, rfl, rfl, _, _, rfl, rfl, _, rfl, (by rw [List.length_map, List.length_map]; omega), (by rw [List.length_map, List.length_map]; omega), ?_⟩
  have en : (((iv p).length : Int) + ((iv o).length : Int) + 2).toNat = p.length + o.length + 2 := by rw [List.length_map, List.length_map]; omega
  refine for_it (walk_range (lo := 0)) (fun i σ H4 => ∃ (x y : Addr) (f s : SerM.Po) (N : Nat) (v4 : Option V), σ = [some (.ref a), some (.ref b), some (.ref x), some (.ref y), v4] ∧ Same H H4 ∧ H4 x = some (.lst (iv f)) ∧ H4 y = some (.lst (iv s)) ∧ SerM.Tm f ∧ SerM.Tm s ∧ f.length ≤ 200 ∧ s.length ≤ 200 ∧ SerM.copr (p.length + o.length + 2 - i) f s = SerM.copr (p.length + o.length + 2) p o ∧ (∀ i, (SerM.co f i).natAbs < 2 ^ N) ∧ (∀ i, (SerM.co s i).natAbs < 2 ^ N) ∧ (N + 1) * 2 ^ (f.length + s.length) ≤ 67108864)
    ⟨x, y, p, o, M, none, rfl, s3, h3x, h3y, tp, to, pl, ol, by rw [Nat.sub_zero], hp, ho, hM⟩ (fun _ _ _ _ _ => trivial) ?_ ?_
  · rintro i v σ H4 H5 hi ⟨x, y, f, s, N, v4, rfl, s4, h4x, h4y, tf, ts, fl, sl, ec, hf, hs, hN⟩ ⟨rfl, rfl⟩
    rw [en] at hi
    obtain ⟨n, hn⟩ : ∃ n, p.length + o.length + 2 - i = n + 1 := ⟨p.length + o.length + 2 - i - 1, by omega⟩
    have hn' : p.length + o.length + 2 - (i + 1) = n := by omega
    rw [hn] at ec
    refine ⟨_, rfl, (by show 0 ≤ sizeLine; decide), fun z hz => ?_⟩
    have s5 := s4.trans (same_upd hz (.lst []))
    have h5x : upd H5 z (.lst []) x = some (.lst (iv f)) := by rw [upd_ne (ne_of_none h4x hz)]; exact h4x
    have h5y : upd H5 z (.lst []) y = some (.lst (iv s)) := by rw [upd_ne (ne_of_none h4y hz)]; exact h4y
    have h5z : upd H5 z (.lst []) z = some (.lst (iv [])) := upd_same
    generalize upd H5 z (.lst []) = H6 at s5 h5x h5y h5z ⊢
    refine ⟨y, z, s, [], rfl, rfl, SqL.of h5y, SqL.of h5z, _, rfl, ?_⟩
    refine ite2 (fun c => ?_) (fun c => ?_)
    · have e : s = [] := of_decide_eq_true c
      refine ⟨_, rfl, x, _, rfl, .inl (SqL.of h5x), rfl, ?_⟩
      have := q H6 s5
      rw [← ec] at this
      unfold SerM.copr at this
      rw [if_pos e] at this
      rw [List.length_map]
      have ed : decide (V.int (f.length : Int) = V.int 1) = (f.length == 1) := by
        by_cases h : f.length = 1
        · rw [h]; decide
        · rw [decide_eq_false (fun z => h (by have := V.int.inj z; omega))]
          exact (beq_eq_false_iff_ne.mpr h).symm
      rw [ed]
      exact this
    · have ne : s ≠ [] := fun e => c (decide_eq_true e)
      have sl0 : 1 ≤ s.length := List.length_pos_iff.mpr ne
      have pw : (N + 1) * (f.length + 4) ≤ 134217728 := by
        have h1 : f.length + 4 ≤ 2 * 2 ^ (f.length + s.length) := by
          have h2 := pow2_ge f.length
          have h3 : 2 ^ (f.length + 1) ≤ 2 ^ (f.length + s.length) := Nat.pow_le_pow_right (by decide) (by omega)
          rw [Nat.pow_succ] at h3
          omega
        have h4 := Nat.mul_le_mul_left (N + 1) h1
        have h5 : (N + 1) * (2 * 2 ^ (f.length + s.length)) = 2 * ((N + 1) * 2 ^ (f.length + s.length)) := by rw [← Nat.mul_assoc, Nat.mul_comm (N + 1) 2, Nat.mul_assoc]
        omega
      refine ⟨_, rfl, _, rfl, _, rfl, x, y, f, s, N, rfl, SqL.of h5x, SqL.of h5y, tf, ts, ne, by omega, by omega, hf, hs, pw, fun hb m H7 s7 hm h7 => ?_⟩
      obtain ⟨r1, r2, _⟩ := SerM.rest_spec ts ne f.length f tf (by omega)
      refine ⟨_, _, rfl, ?_⟩
      have s8 := s5.trans s7
      have h8y := s7 _ _ h5y
      have h8m := h7
      refine ⟨y, m, s, SerM.rest f.length f s, N + (f.length + 1 - s.length) * (N + 1), _, rfl, s8, h8y, h8m, ts, r1, sl, by omega, ?_, fun i => Nat.lt_of_lt_of_le (hs i) (Nat.pow_le_pow_right (by decide) (Nat.le_add_right _ _)), hb, ?_⟩
      · rw [hn', ← ec]
        show _ = SerM.copr (n + 1) f s
        rw [show SerM.copr (n + 1) f s = if s = [] then f.length == 1 else SerM.copr n s (SerM.rest f.length f s) from rfl, if_neg ne]
      · obtain ⟨qq, hq⟩ : ∃ qq, f.length + 1 - s.length = qq := ⟨_, rfl⟩
        rw [hq]
        have h1 : N + qq * (N + 1) + 1 = (N + 1) * (1 + qq) := by grind
        rw [h1]
        have h2 := pow2_ge2 qq
        have h3 : qq + (s.length + (SerM.rest f.length f s).length) ≤ f.length + s.length ∨ qq = 0 := by omega
        rcases h3 with h3 | h3
        · have h4 : 2 ^ qq * 2 ^ (s.length + (SerM.rest f.length f s).length) ≤ 2 ^ (f.length + s.length) := by
            rw [← Nat.pow_add]; exact Nat.pow_le_pow_right (by decide) h3
          have h5 := Nat.mul_le_mul_right (2 ^ (s.length + (SerM.rest f.length f s).length)) h2
          have h6 := Nat.mul_le_mul_left (N + 1) (Nat.le_trans h5 h4)
          rw [← Nat.mul_assoc] at h6
          omega
        · subst h3
          -- nothing is taken away: the rest is the first itself
          have hlt : f.length < s.length := by omega
          have er : ∀ n, SerM.rest n f s = f := fun n => by
            induction n with
            | zero => rfl
            | succ n ih =>
              show (if s.length ≤ f.length then _ else _) = f
              rw [if_neg (by omega)]; exact ih
          rw [er, Nat.add_zero, Nat.mul_one, Nat.add_comm s.length]
          exact hN
  · rintro σ H4 ⟨x, y, f, s, N, v4, rfl, s4, h4x, h4y, tf, ts, fl, sl, ec, hf, hs, hN⟩
    rw [en, Nat.sub_self] at ec
    have := q H4 s4
    rw [← ec] at this
    exact this
end
end Un
namespace Un
open PySem L2 TL
section
variable {P : Program} {w : World} {K : PySem.W.Frag} {mg : Str → Option Value} {base : Heap}
abbrev sLawSo : Stmt := top 64
structure Mt (P : Program) (w : World) (K : PySem.W.Frag) (mg : Str → Option Value) (base : Heap) (C : Addr) (k : Nat) (f : Addr) (fd : FuncData) (m : Str) (ps : List Str) (sp : Sp) : Prop where
  mt : Meth K C m f
  ok : FnOk P w K mg base CX0 k f fd ps sp
  b : Binds K fd ps []
theorem call_isiK {X : Cx} {K : PySem.W.Frag} (h : X.K = K) : CallR X (.builtin "isinstance") (rIsi K) := by
  subst h
  exact call_isi
/-- the sizes that the law's test of a series asks -/
structure SoIn (p q u v : SerM.Po) (c M : Nat) : Prop where
  red : SerM.Red p q u v
  pl : p.length ≤ 200
  ql : q.length ≤ 200
  ul : u.length ≤ 100
  vl : v.length ≤ 100
  pc : ∀ i, (SerM.co p i).natAbs < 2 ^ c
  qc : ∀ i, (SerM.co q i).natAbs < 2 ^ c
  uc : ∀ i, (SerM.co u i).natAbs < 2 ^ M
  vc : ∀ i, (SerM.co v i).natAbs < 2 ^ M
  c9 : c ≤ 9000
  M9 : M ≤ 9000
  sm : (M + 1) * 2 ^ (u.length + v.length) ≤ 67108864
def spSoL (K : PySem.W.Frag) (C : Addr) : Sp := fun vs H Q _ => ∃ (a t x y : Addr) (u v p q : SerM.Po) (c M : Nat), vs = [.ref a, .ref t] ∧ SerAt H C a u v ∧ SqT K H t [.ref x, .ref y] ∧ SqL K H x (iv p) ∧ SqL K H y (iv q) ∧ SoIn p q u v c M ∧ ∀ H', Same H H' → Q (.bl true) H'
theorem scLawSeriesSo : FnScope ["_law_found", "_law_pair_here", "_law_top", "_law_bottom", "_law_cell"] ["_law_found", "_law_pair_here"] (defScope sLawSo) := ⟨rfl, rfl, rfl, by decide +kernel, rfl, by decide +kernel, by decide +kernel⟩
theorem ok_soL {f C f1 f2 g1 g2 g3 : Addr} {fd e1 e2 d1 d2 d3 : FuncData} (F : Fun K "_law_series_so" "_law_series_so" sLawSo f fd) (T : LawT mg) (C' : SerC K C) (MT : Mt P w K mg base C 1 f1 e1 "top" ["self"] (spTopM C)) (MB : Mt P w K mg base C 1 f2 e2 "bottom" ["self"] (spBotM C)) (GT : Df P w K mg base 1 g1 d1 "_law_trim" ["_law_cells_here"] (spTrimL K)) (GM : Df P w K mg base 2 g2 d2 "_law_times" ["_law_one", "_law_other"] (spTimesL K)) (GQ : Df P w K mg base 3 g3 d3 "_law_coprime" ["_law_one", "_law_other"] (spCopL K)) :
    FnOk P w K mg base CX0 4 f fd ["_law_found", "_law_pair_here"] (spSoL K C) := by
  refine F.ok scLawSeriesSo (fun vs H Q E h => ?_) (fun cdv A outer s H vs Q E hr h => ?_)
  · obtain ⟨a, t, x, y, u, v, p, q, c, M, rfl, _⟩ := h
    rfl
  obtain ⟨a, t, x, y, u, v, p, q, c, M, rfl, S, Rt, Rx, Ry, I, qq⟩ := h
  have hsz : 1000000 < sizeLine := by decide
  refine ⟨_, (pss_cons (ps_par (i := 2) (j := 3) rfl scLawSeriesSo.nd rfl rfl (by decide) rfl rfl (pa_cons (pe_meth0 (pv 0) C'.cl MT.mt MT.ok (hr.mono (by decide)) MT.b .nil pass0) (pa_cons (pe_meth0 (pv 0) C'.cl MB.mt MB.ok (hr.mono (by decide)) MB.b .nil pass0) pa_nil)) (by rfl))
 (pss_cons (ps_if (PW.pt (pw_or (pt_not (pt_val (pe_callB call_isi (by rfl) T.isi (by decide +kernel) (pa_cons (pv 2) (pa_cons (pe_bltn (v := .ty "list") (by rfl) T.list (by decide +kernel) rfl) pa_nil))))) (pw_or1 (pt_not (pt_val (pe_callB call_isi (by rfl) T.isi (by decide +kernel) (pa_cons (pv 3) (pa_cons (pe_bltn (v := .ty "list") (by rfl) T.list (by decide +kernel) rfl) pa_nil))))))))
 (pss_one (ps_ret pe_bl))
 pss_nil)
 (pss_cons (ps_if (pt_not (pt_val (pe_callB (cr_all rfl) (by rfl) T.all (by decide +kernel) (pa_cons (pe_lc (own := [("_law_cell", 4)]) (g := (gName 4)) rfl scLawSeriesSo.nd (pi_list (pe_op op_cat (pv 2) (pv 3))) (blkOk_by (own := [("_law_cell", 4)]) (N := ["_law_found", "_law_pair_here", "_law_top", "_law_bottom", "_law_cell"]) (sc := defScope sLawSo) (by decide +kernel)) (fun _ _ _ _ _ => (pg_name (i := 4) scLawSeriesSo.nd rfl (Or.inl rfl) (Or.inr rfl))) (fun _ _ _ _ _ => pts_nil) (fun _ _ _ _ _ => (pe_and (pe_callB (call_isiK (K := K) rfl) (by rfl) T.isi (by decide +kernel) (pa_cons (pv 4) (pa_cons (pe_bltn (v := .ty "int") (by rfl) T.int (by decide +kernel) rfl) pa_nil))) (pe_one (pe_not (pe_callB (call_isiK (K := K) rfl) (by rfl) T.isi (by decide +kernel) (pa_cons (pv 4) (pa_cons (pe_bltn (v := .ty "bool") (by rfl) T.bool (by decide +kernel) rfl) pa_nil)))))))) pa_nil))))
 (pss_one (ps_ret pe_bl))
 pss_nil)
 (pss_cons (ps_if (PW.pt (pw_or (pt_cmpR (op_neI hr.units) (pe_slice sl_list (pv 3) po_none (po_some pe_int)) (pe_lst (pa_cons pe_int pa_nil)) (nomark _)) (pw_or (pt_cmpR (op_neI hr.units) (pv 3) (pe_call GT.ok (hr.mono (by decide)) (by rfl) GT.m GT.kp GT.b .nil pass0 (pa_cons (pv 3) pa_nil)) (nomark _)) (pw_or (pt_cmpR (op_neI hr.units) (pv 2) (pe_call GT.ok (hr.mono (by decide)) (by rfl) GT.m GT.kp GT.b .nil pass0 (pa_cons (pv 2) pa_nil)) (nomark _)) (pw_or1 (pt_not (pt_val (pe_call GQ.ok (hr.mono (by decide)) (by rfl) GQ.m GQ.kp GQ.b .nil pass0 (pa_cons (pv 2) (pa_cons (pv 3) pa_nil))))))))))
 (pss_one (ps_ret pe_bl))
 pss_nil)
 (pss_one (ps_ret (pe_cmpR (op_eqI hr.units) (pe_call GM.ok (hr.mono (by decide)) (by rfl) GM.m GM.kp GM.b .nil pass0 (pa_cons (pv 2) (pa_cons (pe_ix ix_tup (pv 1) pe_int (fun _ _ => rfl)) pa_nil))) (pe_call GM.ok (hr.mono (by decide)) (by rfl) GM.m GM.kp GM.b .nil pass0 (pa_cons (pe_ix ix_tup (pv 1) pe_int (fun _ _ => rfl)) (pa_cons (pv 3) pa_nil))) (nomark _)))))))), ?_⟩
  have ul := I.ul
  have vl := I.vl
  have S' := S
  obtain ⟨dx, x0, y0, z0, ha, _, _, _⟩ := S'
  refine ⟨_, rfl, a, dx, _, rfl, ha, rfl, a, u, v, rfl, S, fun l1 hl1 => ?_⟩
  have s1 := same_upd hl1 (.lst (iv u))
  have h1 : upd H l1 (.lst (iv u)) l1 = some (.lst (iv u)) := upd_same
  generalize upd H l1 (.lst (iv u)) = H1 at s1 h1 ⊢
  refine ⟨_, rfl, a, dx, _, rfl, s1 _ _ ha, rfl, a, u, v, rfl, S.same s1, fun l2 hl2 => ?_⟩
  have s2 := s1.trans (same_upd hl2 (.lst (iv v)))
  have h2u : upd H1 l2 (.lst (iv v)) l1 = some (.lst (iv u)) := by rw [upd_ne (ne_of_none h1 hl2)]; exact h1
  have h2v : upd H1 l2 (.lst (iv v)) l2 = some (.lst (iv v)) := upd_same
  generalize upd H1 l2 (.lst (iv v)) = H2 at s2 h2u h2v ⊢
  refine ⟨_, _, rfl, ?_⟩
  refine ⟨_, rfl, _, _, _, _, true, rfl, .ty _, .base (.lst h2u), kit_ty (by decide +kernel), _, rfl, iteF ?_⟩
  refine ⟨_, rfl, _, _, _, _, true, rfl, .ty _, .base (.lst h2v), kit_ty (by decide +kernel), _, rfl, iteF ?_⟩
  refine ⟨_, rfl, _, rfl, l1, l2, _, _, rfl, rfl, h2u, h2v, (by rw [List.length_map, List.length_map]; omega), fun l3 hl3 => ?_⟩
  have s3 := s2.trans (same_upd hl3 (.lst (iv u ++ iv v)))
  have h3u : upd H2 l3 (.lst (iv u ++ iv v)) l1 = some (.lst (iv u)) := by rw [upd_ne (ne_of_none h2u hl3)]; exact h2u
  have h3v : upd H2 l3 (.lst (iv u ++ iv v)) l2 = some (.lst (iv v)) := by rw [upd_ne (ne_of_none h2v hl3)]; exact h2v
  have euv : iv u ++ iv v = iv (u ++ v) := List.map_append.symm
  have h3l : upd H2 l3 (.lst (iv u ++ iv v)) l3 = some (.lst (iv (u ++ v))) := by rw [upd_same, euv]
  generalize upd H2 l3 (.lst (iv u ++ iv v)) = H3 at s3 h3u h3v h3l ⊢
  refine ⟨l3, rfl, ⟨_, SqL.of h3l⟩, fun D hD => ?_⟩
  refine lc_it (walk_list (K := K) (xs := iv (u ++ v))) (fun i H4 => Same H3 H4 ∧ H4 D = some (.lst (List.replicate i (V.bl true)))) ⟨same_upd hD _, upd_same⟩ (fun i H4 _ h => h.1.seq (SqL.of h3l)) ?_ ?_
  · rintro i z H4 H5 hi ⟨s4, h4⟩ ⟨rfl, hz⟩
    obtain ⟨_, rfl⟩ := iv_get hz
    refine ⟨rfl, _, rfl, _, _, _, _, true, rfl, .ty _, .base (.int _), kit_ty (by decide +kernel), _, rfl, iteT ?_⟩
    refine ⟨_, rfl, _, _, _, _, false, rfl, .ty _, .base (.int _), kit_ty (by decide +kernel), _, rfl, ?_⟩
    refine ⟨_, h4, ?_, fun o ob hb => ?_, ?_⟩
    · rw [List.length_map, List.length_append] at hi
      rw [List.length_replicate]; omega
    · rw [upd_ne (ne_of_none hb hD)]; exact s4 _ _ hb
    · rw [upd_same, List.replicate_succ']; rfl
  rintro H4 ⟨s4, h4⟩
  rw [List.length_map] at h4
  refine ⟨D, List.replicate (u ++ v).length true, rfl, SqL.of (by rw [h4, List.map_replicate]), ?_⟩
  have eall : (List.replicate (u ++ v).length true).all id = true := by rw [List.all_eq_true]; intro b hb; exact (List.mem_replicate.mp hb).2
  rw [eall]
  refine ⟨_, rfl, iteF ?_⟩
  have s4' := s3.trans s4
  have h4u := s4 _ _ h3u
  have h4v := s4 _ _ h3v
  have v0 : SerM.co v 0 = 1 := by rw [SerM.co0_ev]; exact I.red.v1
  have vn : 1 ≤ v.length := Nat.pos_of_ne_zero fun z => by rw [List.length_eq_zero_iff.mp z, SerM.co_nil] at v0; omega
  -- bottom[:1] != [1]
  refine ⟨_, rfl, _, rfl, l2, _, rfl, SqL.of h4v, fun d1 hd1 => ?_⟩
  have ecut : cutV (iv v) none (some 1) = iv [1] := by
    have : cutV (iv v) none (some ((1 : Nat) : Int)) = iv (v.take 1) := cut_take vn
    refine Eq.trans this ?_
    rw [take_last (Nat.le_refl 1) vn, Nat.sub_self, v0]; rfl
  rw [ecut]
  have s5 := s4'.trans (same_upd hd1 (.lst (iv [1])))
  have h5u : upd H4 d1 (.lst (iv [1])) l1 = some (.lst (iv u)) := by rw [upd_ne (ne_of_none h4u hd1)]; exact h4u
  have h5v : upd H4 d1 (.lst (iv [1])) l2 = some (.lst (iv v)) := by rw [upd_ne (ne_of_none h4v hd1)]; exact h4v
  have h5d : upd H4 d1 (.lst (iv [1])) d1 = some (.lst (iv [1])) := upd_same
  generalize upd H4 d1 (.lst (iv [1])) = H5 at s5 h5u h5v h5d ⊢
  refine ⟨(by show 1 ≤ sizeLine; decide), fun d2 hd2 => ?_⟩
  have s6 := s5.trans (same_upd hd2 (.lst [V.int 1]))
  have h6u : upd H5 d2 (.lst [V.int 1]) l1 = some (.lst (iv u)) := by rw [upd_ne (ne_of_none h5u hd2)]; exact h5u
  have h6v : upd H5 d2 (.lst [V.int 1]) l2 = some (.lst (iv v)) := by rw [upd_ne (ne_of_none h5v hd2)]; exact h5v
  have h6d : upd H5 d2 (.lst [V.int 1]) d1 = some (.lst (iv [1])) := by rw [upd_ne (ne_of_none h5d hd2)]; exact h5d
  have h6e : upd H5 d2 (.lst [V.int 1]) d2 = some (.lst (iv [1])) := upd_same
  generalize upd H5 d2 (.lst [V.int 1]) = H6 at s6 h6u h6v h6d h6e ⊢
  refine ⟨d1, d2, [1], [1], rfl, rfl, SqL.of h6d, SqL.of h6e, _, rfl, iteF ?_⟩
  -- bottom != trim(bottom)
  refine ⟨_, rfl, _, rfl, l2, v, rfl, SqL.of h6v, by omega, fun d3 H7 s7' hd3 h7 => ?_⟩
  rw [SerM.trim_id I.red.tv] at h7
  have s7 := s6.trans s7'
  have h7u := s7' _ _ h6u
  have h7v := s7' _ _ h6v
  refine ⟨l2, d3, v, v, rfl, rfl, SqL.of h7v, SqL.of h7, _, rfl, ?_⟩
  rw [decide_eq_true (rfl : v = v)]
  refine iteF ?_
  refine ⟨_, rfl, _, rfl, l1, u, rfl, SqL.of h7u, by omega, fun d4 H8 s8' hd4 h8 => ?_⟩
  rw [SerM.trim_id I.red.tu] at h8
  have s8 := s7.trans s8'
  have h8u := s8' _ _ h7u
  have h8v := s8' _ _ h7v
  refine ⟨l1, d4, u, u, rfl, rfl, SqL.of h8u, SqL.of h8, _, rfl, ?_⟩
  rw [decide_eq_true (rfl : u = u)]
  refine iteF ?_
  refine ⟨_, rfl, _, rfl, l1, l2, u, v, M, rfl, SqL.of h8u, SqL.of h8v, I.red.tu, I.red.tv, by omega, by omega, I.uc, I.vc, I.sm, fun H9 s9' => ?_⟩
  rw [SerM.copr_true I.red.cop I.red.v1 I.red.tu I.red.tv (by omega)]
  refine ⟨_, rfl, iteF ?_⟩
  have s9 := s8.trans s9'
  have h9u := s9' _ _ h8u
  have h9v := s9' _ _ h8v
  have up : ∀ {p : SerM.Po} {a b : Nat}, a ≤ b → (∀ i, (SerM.co p i).natAbs < 2 ^ a) → ∀ i, (SerM.co p i).natAbs < 2 ^ b := fun hab hp i => Nat.lt_of_lt_of_le (hp i) (Nat.pow_le_pow_right (by decide) hab)
  have c9 := I.c9
  have M9 := I.M9
  have pl := I.pl
  have ql := I.ql
  refine ⟨_, rfl, _, rfl, t, _, _, _, rfl, rfl, sameT s9 Rt, rfl, l1, y, u, q, max c M, rfl, SqL.of h9u, s9.seq Ry, by omega, by omega, up (by omega) I.uc, up (by omega) I.qc, by omega, fun m1 H10 s10' hm1 h10 => ?_⟩
  have s10 := s9.trans s10'
  refine ⟨_, rfl, t, _, _, _, rfl, rfl, sameT s10 Rt, rfl, _, rfl, x, l2, p, v, max c M, rfl, s10.seq Rx, SqL.of (s10' _ _ h9v), by omega, by omega, up (by omega) I.pc, up (by omega) I.vc, by omega, fun m2 H11 s11 hm2 h11 => ?_⟩
  have e : SerM.trim (SerM.mul u q) = SerM.trim (SerM.mul p v) := trim_co_ext fun i => SerM.co_of_ev 0 (fun x _ => by rw [SerM.ev_mul, SerM.ev_mul]; exact I.red.eq x) i
  refine ⟨m1, m2, _, _, rfl, rfl, SqL.of (s11 _ _ h10), SqL.of h11, ?_⟩
  rw [decide_eq_true e]
  exact qq H11 (s10.trans s11)
end
end Un
namespace Un
open PySem L2 TL
section
variable {P : Program} {w : World} {K : PySem.W.Frag} {mg : Str → Option Value} {base : Heap}
/-! ### plus, spread, order of the law -/
abbrev sLawPlus : Stmt := top 59
abbrev sLawOrder : Stmt := top 65
theorem iv_rep (p : SerM.Po) (k : Nat) : iv p ++ List.replicate k (V.int 0) = iv (p ++ List.replicate k 0) := by
  show _ = List.map V.int (p ++ List.replicate k 0)
  rw [List.map_append, List.map_replicate]
theorem co_rep (p : SerM.Po) (k i : Nat) : SerM.co (p ++ List.replicate k 0) i = SerM.co p i := by
  unfold SerM.co
  rw [List.getD_eq_getElem?_getD, List.getElem?_append, List.getD_eq_getElem?_getD]
  split
  · rfl
  · rename_i h
    rw [List.getElem?_replicate, List.getElem?_eq_none (l := p) (by omega)]
    split <;> rfl
def spPlusL (K : PySem.W.Frag) : Sp := fun vs H Q _ => ∃ (a b : Addr) (p q : SerM.Po) (t : Int), vs = [.ref a, .ref b, .int t] ∧ SqL K H a (iv p) ∧ SqL K H b (iv q) ∧ p.length ≤ 200 ∧ q.length ≤ 200 ∧ t.natAbs ≤ 1000 ∧ Out H (SerM.trim (SerM.add p (SerM.smul t q))) Q
theorem scLawPlus : FnScope ["_law_one", "_law_other", "_law_factor", "_law_many", "_law_wide", "_law_late", "_law_a", "_law_b"] ["_law_one", "_law_other", "_law_factor"] (defScope sLawPlus) := ⟨rfl, rfl, rfl, by decide +kernel, rfl, by decide +kernel, by decide +kernel⟩
theorem ok_plusL {f g : Addr} {fd gd : FuncData} (F : Fun K "_law_plus" "_law_plus" sLawPlus f fd) (T : LawT mg) (GT : Df P w K mg base 1 g gd "_law_trim" ["_law_cells_here"] (spTrimL K)) : FnOk P w K mg base CX0 2 f fd ["_law_one", "_law_other", "_law_factor"] (spPlusL K) := by
  refine F.ok scLawPlus (fun vs H Q E h => ?_) (fun cdv A outer s H vs Q E hr h => ?_)
  · obtain ⟨a, b, p, o, t, rfl, _⟩ := h
    rfl
  obtain ⟨a, b, p, o, t, rfl, Ra, Rb, pl, ol, tb, q⟩ := h
  have hsz : 1000000 < sizeLine := by decide
  refine ⟨_, (pss_cons (ps_set (i := 3) scLawPlus.nd rfl (by first | exact Or.inl rfl | exact Or.inr rfl) (pe_callB (cr_max rfl) (by rfl) T.max (by decide +kernel) (pa_cons (pe_lst (pa_cons (pe_callB call_len_seq (by rfl) T.len PySem.boot_len (pa_cons (pv 0) pa_nil)) (pa_cons (pe_callB call_len_seq (by rfl) T.len PySem.boot_len (pa_cons (pv 1) pa_nil)) pa_nil))) pa_nil)))
 (pss_cons (ps_par (i := 4) (j := 5) rfl scLawPlus.nd rfl rfl (by decide) rfl rfl (pa_cons (pe_op op_cat (pe_callTy call_list_of (by rfl) T.list (by decide +kernel) (pa_cons (pv 0) pa_nil)) (pe_op op_rep (pe_lst (pa_cons pe_int pa_nil)) (pe_op op_sub (pv 3) (pe_callB call_len_seq (by rfl) T.len PySem.boot_len (pa_cons (pv 0) pa_nil))))) (pa_cons (pe_op op_cat (pe_callTy call_list_of (by rfl) T.list (by decide +kernel) (pa_cons (pv 1) pa_nil)) (pe_op op_rep (pe_lst (pa_cons pe_int pa_nil)) (pe_op op_sub (pv 3) (pe_callB call_len_seq (by rfl) T.len PySem.boot_len (pa_cons (pv 1) pa_nil))))) pa_nil)) (by rfl))
 (pss_one (ps_ret (pe_call GT.ok (hr.mono (by decide)) (by rfl) GT.m GT.kp GT.b .nil pass0 (pa_cons (pe_lc (own := [("_law_a", 6), ("_law_b", 7)]) (g := (gTup K 2 (gCons (gName 6) (gCons (gName 7) gNil)))) rfl scLawPlus.nd (pi_zip (by rfl) T.zip (pa_cons (pv 4) (pa_cons (pv 5) pa_nil))) (blkOk_by (own := [("_law_a", 6), ("_law_b", 7)]) (N := ["_law_one", "_law_other", "_law_factor", "_law_many", "_law_wide", "_law_late", "_law_a", "_law_b"]) (sc := defScope sLawPlus) (by decide +kernel)) (fun _ _ _ _ _ => (pg_tup (n := 2) rfl (pgs_cons (pg_name (i := 6) scLawPlus.nd rfl (Or.inl rfl) (Or.inr rfl)) (pgs_cons (pg_name (i := 7) scLawPlus.nd rfl (Or.inl rfl) (Or.inr rfl)) pgs_nil)))) (fun _ _ _ _ _ => pts_nil) (fun _ _ _ _ _ => (pe_op op_add (pv 6) (pe_op op_mul (pv 2) (pv 7))))) pa_nil)))))), ?_⟩
  refine ⟨_, rfl, a, _, rfl, .inl Ra, _, rfl, b, _, rfl, .inl Rb, (by show 2 ≤ sizeLine; decide), fun z0 hz0 => ?_⟩
  rw [List.length_map, List.length_map]
  have s1 := same_upd hz0 (.lst [V.int (p.length : Int), V.int (o.length : Int)])
  refine ⟨z0, [(p.length : Int), (o.length : Int)], rfl, SqL.of upd_same, (by show 0 < 2; decide), fun mx hm hmax => ?_⟩
  have m1 := hmax (p.length : Int) (by simp)
  have m2 := hmax (o.length : Int) (by simp)
  have m3 : mx ≤ 200 := by
    simp only [List.mem_cons, List.not_mem_nil, or_false] at hm
    rcases hm with rfl | rfl <;> omega
  obtain ⟨n, rfl⟩ : ∃ n : Nat, mx = (n : Int) := ⟨mx.toNat, by omega⟩
  generalize upd H z0 (.lst [V.int (p.length : Int), V.int (o.length : Int)]) = H1 at s1 ⊢
  refine ⟨_, rfl, a, _, rfl, .inl (s1.seq Ra), fun x1 hx1 => ?_⟩
  have s2 := s1.trans (same_upd hx1 (.lst (iv p)))
  have h2 : upd H1 x1 (.lst (iv p)) x1 = some (.lst (iv p)) := upd_same
  generalize upd H1 x1 (.lst (iv p)) = H2 at s2 h2 ⊢
  refine ⟨(by show 1 ≤ sizeLine; decide), fun z1 hz1 => ?_⟩
  have s3 := s2.trans (same_upd hz1 (.lst [V.int 0]))
  have h3 : upd H2 z1 (.lst [V.int 0]) x1 = some (.lst (iv p)) := by rw [upd_ne (ne_of_none h2 hz1)]; exact h2
  have h3z : upd H2 z1 (.lst [V.int 0]) z1 = some (.lst [V.int 0]) := upd_same
  generalize upd H2 z1 (.lst [V.int 0]) = H3 at s3 h3 h3z ⊢
  refine ⟨_, rfl, _, rfl, a, _, rfl, .inl (s3.seq Ra), _, _, rfl, rfl, z1, _, _, rfl, rfl, h3z, (by rw [List.length_map]; omega), (by rw [List.length_map]; omega), (by rw [List.length_map]; show 1 * _ ≤ _; omega), fun z2 hz2 => ?_⟩
  have en : ((n : Int) - ((iv p).length : Int)).toNat = n - p.length := by rw [List.length_map]; omega
  rw [en, rep_one]
  have s4 := s3.trans (same_upd hz2 (.lst (List.replicate (n - p.length) (V.int 0))))
  have h4 : upd H3 z2 (.lst (List.replicate (n - p.length) (V.int 0))) x1 = some (.lst (iv p)) := by rw [upd_ne (ne_of_none h3 hz2)]; exact h3
  have h4z : upd H3 z2 (.lst (List.replicate (n - p.length) (V.int 0))) z2 = some (.lst (List.replicate (n - p.length) (V.int 0))) := upd_same
  generalize upd H3 z2 (.lst (List.replicate (n - p.length) (V.int 0))) = H4 at s4 h4 h4z ⊢
  refine ⟨x1, z2, _, _, rfl, rfl, h4, h4z, (by rw [List.length_map, List.length_replicate]; omega), fun w1 hw1 => ?_⟩
  rw [iv_rep]
  have s5 := s4.trans (same_upd hw1 (.lst (iv (p ++ List.replicate (n - p.length) 0))))
  have h5 : upd H4 w1 (.lst (iv (p ++ List.replicate (n - p.length) 0))) w1 = some (.lst (iv (p ++ List.replicate (n - p.length) 0))) := upd_same
  generalize upd H4 w1 (.lst (iv (p ++ List.replicate (n - p.length) 0))) = H5 at s5 h5 ⊢
  -- the other one
  refine ⟨_, rfl, b, _, rfl, .inl (s5.seq Rb), fun x2 hx2 => ?_⟩
  have s6 := s5.trans (same_upd hx2 (.lst (iv o)))
  have h6 : upd H5 x2 (.lst (iv o)) x2 = some (.lst (iv o)) := upd_same
  have h6w : upd H5 x2 (.lst (iv o)) w1 = some (.lst (iv (p ++ List.replicate (n - p.length) 0))) := by rw [upd_ne (ne_of_none h5 hx2)]; exact h5
  generalize upd H5 x2 (.lst (iv o)) = H6 at s6 h6 h6w ⊢
  refine ⟨(by show 1 ≤ sizeLine; decide), fun z3 hz3 => ?_⟩
  have s7 := s6.trans (same_upd hz3 (.lst [V.int 0]))
  have h7 : upd H6 z3 (.lst [V.int 0]) x2 = some (.lst (iv o)) := by rw [upd_ne (ne_of_none h6 hz3)]; exact h6
  have h7w : upd H6 z3 (.lst [V.int 0]) w1 = some (.lst (iv (p ++ List.replicate (n - p.length) 0))) := by rw [upd_ne (ne_of_none h6w hz3)]; exact h6w
  have h7z : upd H6 z3 (.lst [V.int 0]) z3 = some (.lst [V.int 0]) := upd_same
  generalize upd H6 z3 (.lst [V.int 0]) = H7 at s7 h7 h7w h7z ⊢
  refine ⟨_, rfl, _, rfl, b, _, rfl, .inl (s7.seq Rb), _, _, rfl, rfl, z3, _, _, rfl, rfl, h7z, (by rw [List.length_map]; omega), (by rw [List.length_map]; omega), (by rw [List.length_map]; show 1 * _ ≤ _; omega), fun z4 hz4 => ?_⟩
  have en2 : ((n : Int) - ((iv o).length : Int)).toNat = n - o.length := by rw [List.length_map]; omega
  rw [en2, rep_one]
  have s8 := s7.trans (same_upd hz4 (.lst (List.replicate (n - o.length) (V.int 0))))
  have h8 : upd H7 z4 (.lst (List.replicate (n - o.length) (V.int 0))) x2 = some (.lst (iv o)) := by rw [upd_ne (ne_of_none h7 hz4)]; exact h7
  have h8w : upd H7 z4 (.lst (List.replicate (n - o.length) (V.int 0))) w1 = some (.lst (iv (p ++ List.replicate (n - p.length) 0))) := by rw [upd_ne (ne_of_none h7w hz4)]; exact h7w
  have h8z : upd H7 z4 (.lst (List.replicate (n - o.length) (V.int 0))) z4 = some (.lst (List.replicate (n - o.length) (V.int 0))) := upd_same
  generalize upd H7 z4 (.lst (List.replicate (n - o.length) (V.int 0))) = H8 at s8 h8 h8w h8z ⊢
  refine ⟨x2, z4, _, _, rfl, rfl, h8, h8z, (by rw [List.length_map, List.length_replicate]; omega), fun w2 hw2 => ?_⟩
  rw [iv_rep]
  have s9 := s8.trans (same_upd hw2 (.lst (iv (o ++ List.replicate (n - o.length) 0))))
  have h9 : upd H8 w2 (.lst (iv (o ++ List.replicate (n - o.length) 0))) w2 = some (.lst (iv (o ++ List.replicate (n - o.length) 0))) := upd_same
  have h9w : upd H8 w2 (.lst (iv (o ++ List.replicate (n - o.length) 0))) w1 = some (.lst (iv (p ++ List.replicate (n - p.length) 0))) := by rw [upd_ne (ne_of_none h8w hw2)]; exact h8w
  generalize upd H8 w2 (.lst (iv (o ++ List.replicate (n - o.length) 0))) = H9 at s9 h9 h9w ⊢
  refine ⟨_, _, rfl, ?_⟩
  have l1 : (iv (p ++ List.replicate (n - p.length) 0)).length = n := by rw [List.length_map, List.length_append, List.length_replicate]; omega
  have l2 : (iv (o ++ List.replicate (n - o.length) 0)).length = n := by rw [List.length_map, List.length_append, List.length_replicate]; omega
  refine ⟨_, rfl, _, rfl, w1, w2, _, _, rfl, SqL.of h9w, SqL.of h9, fun D hD => ?_⟩
  let G : Nat → Int := fun i => SerM.co p i + t * SerM.co o i
  refine lc_it (walk_zip (n := n) (by rw [l1, l2, Nat.min_self])) (fun i HA => Same H9 HA ∧ HA D = some (.lst (iv (tab G i)))) ⟨same_upd hD _, upd_same⟩ (fun i HA _ h => ⟨h.1.seq (SqL.of h9w), h.1.seq (SqL.of h9)⟩) ?_ ?_
  · rintro j v HA HB hj ⟨sA, hA⟩ ⟨tt, y, z, rfl, ht, rfl, hy, hz⟩
    obtain ⟨_, rfl⟩ := iv_get hy
    obtain ⟨_, rfl⟩ := iv_get hz
    rw [co_rep, co_rep]
    have tD : D ≠ tt := ne_of_none hA ht
    have sB := sA.trans (same_upd ht (.tup [.int (SerM.co p j), .int (SerM.co o j)]))
    have hB : upd HA tt (.tup [.int (SerM.co p j), .int (SerM.co o j)]) D = some (.lst (iv (tab G j))) := by rw [upd_ne tD]; exact hA
    refine ⟨tt, _, rfl, SqT.of upd_same, rfl, _, _, rfl, _, _, rfl, rfl, rfl, ?_⟩
    generalize upd HA tt (.tup [.int (SerM.co p j), .int (SerM.co o j)]) = HC at sB hB ⊢
    refine ⟨_, rfl, _, rfl, _, rfl, _, _, rfl, rfl, .inl ⟨by omega, by omega⟩, _, _, rfl, rfl, ?_⟩
    refine ⟨_, hB, by rw [List.length_map, tab_len]; omega, fun a' o' ha' => ?_, ?_⟩
    · rw [upd_ne (ne_of_none ha' hD)]; exact sB _ _ ha'
    · rw [upd_same, show tab G (j + 1) = tab G j ++ [G j] by unfold tab; rw [List.range_succ, List.map_append]; rfl]
      simp [iv, G]
  · rintro HA ⟨sA, hA⟩
    refine ⟨D, tab G n, rfl, SqL.of hA, by rw [tab_len]; omega, fun m3 HB sB hm3 hB => ?_⟩
    refine q m3 HB ((s9.trans sA).trans sB) ((s9.trans sA).free hm3) ?_
    rw [hB]
    congr 3
    refine tab_trim (fun i hi => by rw [SerM.co_add, SerM.co_smul]) fun i hi => ?_
    rw [SerM.co_add, SerM.co_smul, SerM.co_len (p := p) (by omega), SerM.co_len (p := o) (by omega)]; omega
end
end Un
namespace Un
open PySem L2 TL
section
variable {P : Program} {w : World} {K : PySem.W.Frag} {mg : Str → Option Value} {base : Heap}
def spOrderL (K : PySem.W.Frag) : Sp := fun vs H Q _ => ∃ (a : Addr) (p : SerM.Po), vs = [.ref a] ∧ SqL K H a (iv p) ∧ p.length ≤ 200 ∧ ∀ (z : V) (H' : Hp), Same H H' → OrdV p z → Q z H'
theorem scLawOrder : FnScope ["_law_top", "_law_places", "_law_at", "_law_cell"] ["_law_top"] (defScope sLawOrder) := ⟨rfl, rfl, rfl, by decide +kernel, rfl, by decide +kernel, by decide +kernel⟩
theorem ok_orderL {f : Addr} {fd : FuncData} (F : Fun K "_law_order" "_law_order" sLawOrder f fd) (T : LawT mg) : FnOk P w K mg base CX0 1 f fd ["_law_top"] (spOrderL K) := by
  refine F.ok scLawOrder (fun vs H Q E h => ?_) (fun cdv A outer s H vs Q E hr h => ?_)
  · obtain ⟨a, p, rfl, _⟩ := h
    rfl
  obtain ⟨a, p, rfl, R, pl, q⟩ := h
  have hsz : 1000000 < sizeLine := by decide
  refine ⟨_, (pss_cons (ps_setLc (i := 1) (own := [("_law_at", 2), ("_law_cell", 3)]) (g := (gTup K 2 (gCons (gName 2) (gCons (gName 3) gNil)))) rfl scLawOrder.nd rfl rfl (sw_true rfl rfl rfl (by decide +kernel)) (pi_enum (by rfl) T.enum (pa_cons (pv 0) pa_nil)) (blkOk_by (own := [("_law_at", 2), ("_law_cell", 3)]) (N := ["_law_top", "_law_places", "_law_at", "_law_cell"]) (sc := defScope sLawOrder) (by decide +kernel)) (fun _ _ _ _ _ => (pg_tup (n := 2) rfl (pgs_cons (pg_name (i := 2) scLawOrder.nd rfl (Or.inl rfl) (Or.inr rfl)) (pgs_cons (pg_name (i := 3) scLawOrder.nd rfl (Or.inl rfl) (Or.inr rfl)) pgs_nil)))) (fun _ _ _ _ _ => (pts_one (pt_cmpR op_ne (pv 3) pe_int (nomark _)))) (fun _ _ _ _ _ => (pv 2)))
 (pss_one (ps_ret (pe_ifExp (pt_cmpR (op_neI hr.units) (pv 1) (pe_lst pa_nil) (nomark _)) (pe_ix ix_list (pv 1) pe_int (fun _ _ => rfl)) pe_non)))), ?_⟩
  refine ⟨_, rfl, a, _, rfl, R, fun D hD => ?_⟩
  refine lc_it walk_enum (fun i H2 => Same H H2 ∧ ∃ js : List Int, H2 D = some (.lst (iv js)) ∧ js.length ≤ i ∧ ((js = [] ∧ ∀ j, j < i → SerM.co p j = 0) ∨ ∃ (k : Nat) (r : List Int), js = (k : Int) :: r ∧ k < p.length ∧ SerM.co p k ≠ 0 ∧ ∀ j, j < k → SerM.co p j = 0))
    ⟨same_upd hD _, [], upd_same, Nat.le_refl _, .inl ⟨rfl, fun j hj => absurd hj (Nat.not_lt_zero j)⟩⟩ (fun i H2 _ h => h.1.seq R) ?_ ?_
  · rintro i v H2 H3 hi ⟨s2, js, h2, jl, hj⟩ ⟨t, x, z, rfl, ht, rfl, hx, hz⟩
    cases hx
    obtain ⟨hi', rfl⟩ := iv_get hz
    have s3 := s2.trans (same_upd ht (.tup [.int (i : Nat), .int (SerM.co p i)]))
    have h3 : upd H2 t (.tup [.int (i : Nat), .int (SerM.co p i)]) D = some (.lst (iv js)) := by rw [upd_ne (ne_of_none h2 ht)]; exact h2
    refine ⟨t, _, rfl, SqT.of upd_same, rfl, _, _, rfl, _, _, rfl, rfl, rfl, ?_⟩
    generalize upd H2 t (.tup [.int (i : Nat), .int (SerM.co p i)]) = H4 at s3 h3 ⊢
    refine ⟨_, rfl, rfl, _, rfl, ?_⟩
    refine ite2 (fun c => ?_) (fun c => ?_)
    · have ne : SerM.co p i ≠ 0 := fun z => by rw [z] at c; exact absurd c (by decide)
      refine ⟨_, rfl, _, h3, by rw [List.length_map]; omega, fun o ob hb => ?_, js ++ [(i : Int)], ?_, by rw [List.length_append]; show _ + 1 ≤ _; omega, ?_⟩
      · rw [upd_ne (ne_of_none hb hD)]; exact s3 _ _ hb
      · rw [upd_same]; simp [iv]
      · rcases hj with ⟨rfl, hz⟩ | ⟨k, r, rfl, k1, k2, k3⟩
        · exact .inr ⟨i, [], rfl, hi', ne, hz⟩
        · exact .inr ⟨k, r ++ [(i : Int)], rfl, k1, k2, k3⟩
    · have z : SerM.co p i = 0 := Classical.byContradiction fun z => c (by
        show (!decide (V.int (SerM.co p i) = V.int 0)) = true
        rw [decide_eq_false (fun e => z (V.int.inj e))]; rfl)
      refine ⟨s3, js, h3, by omega, ?_⟩
      rcases hj with ⟨rfl, hz⟩ | ⟨k, r, rfl, k1, k2, k3⟩
      · refine .inl ⟨rfl, fun j hj => ?_⟩
        by_cases e : j = i
        · rw [e]; exact z
        · exact hz j (by omega)
      · exact .inr ⟨k, r, rfl, k1, k2, k3⟩
  · rintro H2 ⟨s2, js, h2, jl, hj⟩
    refine ⟨_, rfl, (by show 0 ≤ sizeLine; decide), fun z hz => ?_⟩
    have s3 := s2.trans (same_upd hz (.lst []))
    have h3 : upd H2 z (.lst []) D = some (.lst (iv js)) := by rw [upd_ne (ne_of_none h2 hz)]; exact h2
    refine ⟨D, z, js, [], rfl, rfl, SqL.of h3, SqL.of upd_same, _, rfl, ?_⟩
    rcases hj with ⟨rfl, hz⟩ | ⟨k, r, rfl, k1, k2, k3⟩
    · refine iteF (q _ _ s3 (.inr ⟨fun i => ?_, rfl⟩))
      by_cases hi : i < p.length
      · exact hz i (by rw [List.length_map]; exact hi)
      · exact SerM.co_len (by omega)
    · refine iteT ⟨_, rfl, D, _, _, _, rfl, rfl, SqL.of h3, (show atI (iv ((k : Int) :: r)) ((0 : Nat) : Int) = some (V.int (k : Int)) from atI_nat rfl), ?_⟩
      exact q _ _ s3 (.inl ⟨k, k1, k2, k3, rfl⟩)
end
end Un
namespace Un
open PySem L2 TL
section
variable {P : Program} {w : World} {K : PySem.W.Frag} {mg : Str → Option Value} {base : Heap}
end
end Un
/-! ### an own class under len, repr, in, bool -/
namespace OwnX
open PySem L2 TL
section
variable {X : Cx} {k : Nat} {C f : Addr} {m : Str} {fd : FuncData} {ps : List Str} {sp : Sp}
structure OMt (P : Program) (w : World) (K : PySem.W.Frag) (mg : Str → Option Value) (base : Heap) (C : Addr) (k : Nat) (f : Addr) (fd : FuncData) (m : Str) (ps : List Str) (sp : Sp) : Prop where
  mt : Meth K C m f
  ok : FnOk P w K mg base CX0 k f fd ps sp
  b : Binds K fd ps []
/-- an own method, called by the interpreter itself -/
theorem run_own {A : Around} {pins : List (Addr × Obj)} {s : Shared} {σ : St} {H : Hp} {vs : List V} {us : List Value} {Q : VK} {E : Value → Shared → Prop} (M : OMt X.prog X.w X.K X.mg X.base C k f fd m ps sp) (hA : A.frames = X.A.frames) (hr : Room k A) (I : L2.Inv X pins σ H s) (r : Vals vs us) (q : sp vs H Q E0) :
    wpAny (model X.prog X.w) A (call (.ref f) us) (EP X pins σ Q) E s := by
  have hl : us.length = ps.length := by rw [← r.length]; exact M.ok.len _ _ _ _ q
  have b := M.b s us I.kIn (by rw [List.append_nil]; exact hl)
  rw [List.append_nil] at b
  have e0 := I.env0
  refine wpAny_call (codeAny_mono (M.ok.run A X.stack s H ⟨us, []⟩ us vs Q E0 hr ⟨hA.trans e0.frames, e0.mod, e0.bs, e0.bsz, e0.funs, e0.frf, e0.hok, e0.bare⟩ b r q) fun r s' hq => ?_)
  cases r with
  | error e => exact False.elim hq
  | ok fl =>
    cases fl with
    | ret u => exact I.after hq
    | next => exact False.elim hq
    | brk => exact False.elim hq
    | cont => exact False.elim hq
/-- repr(obj) -/
theorem call_reprO (M : OMt X.prog X.w X.K X.mg X.base C k f fd "__repr__" ps sp) (hr : Room (k + 1) X.A) : CallR X (.builtin "repr") (fun xs H Q => ∃ a dx fs, xs = [.ref a] ∧ H a = some (.ins C dx fs) ∧ sp [.ref a] H (fun v H' => ∃ z : Str, v = .str z ∧ Q v H') E0) := by
  intro pins s σ H xs us Q I r h
  obtain ⟨a, dx, fs, rfl, ea, q⟩ := h
  obtain ⟨m, fr⟩ := I.fr
  obtain ⟨ox, od, J, _⟩ := StX.insC_at I (.inr ⟨dx, fs, ea⟩)
  cases r with
  | cons r1 r2 =>
  cases r2
  obtain rfl := r1
  refine PySem.W.repr_K (by have := hr.in1.un; omega) fr I.ok.mod.kin J M.mt.at_ M.mt.fn ?_
  refine wpAny_mono (run_own (pins := pins) (σ := σ) (A := X.A.in1) M (vs := [.ref a]) (us := [.ref a]) rfl hr.in1 I (.cons rfl .nil) q) (fun u s' hu => ?_) fun e s' he => he
  obtain ⟨v, H', I', rv, z, rfl, q'⟩ := hu
  obtain ⟨t, rfl⟩ := rv
  exact ⟨.str z, H', I', ⟨_, rfl⟩, q'⟩
end
end OwnX
/-! ### an own class under ==, !=, in, bool -/
namespace OwnX
open PySem PySem.Spec PyProof.Rows L2 TL
theorem meets_bool_in {prog : Program} {w : World} (x : Value) :
    MeetsIn prog w (Builtin.«bool.__new__» ⟨[.type "bool", x], []⟩) (fun A R s => wpAny (model prog w) A.in1 (truthy x) (fun b s' => R (.ok (.ret (.bool b))) s') (fun e s' => R (.error e) s') s) :=
  .of_wp fun A R s h => by
    obtain ⟨hp, g, d, tk, os⟩ := s
    have f1 := F.conv_sub_bool
    repeat (any_goals (first | assumption | (with_reducible refine wpAny_mono h (fun b s' z => ?_) fun _ _ z => z) | wp_step))
    all_goals first | exact wpAny_pure ⟨_, rfl, z⟩ | exact ⟨_, rfl, z⟩ | exact z | exact h | skip
section
variable {X : Cx} {k : Nat} {C f : Addr} {fd : FuncData} {ps : List Str} {sp : Sp}
/-- what == of an own class looks at first: the other value's type -/
def TyKn (K : PySem.W.Frag) (C : Addr) (y : V) (H : Hp) : Prop := (∃ b dy gs, y = .ref b ∧ H b = some (.ins C dy gs)) ∨ (∃ b ys, y = .ref b ∧ H b = some (.lst ys))
theorem sub_list {K : PySem.W.Frag} : PySem.W.subIn K (.type "list") (.ref C) = some false := by
  have e : fastBuiltinMro "list" = some [.type "list", .type "object"] := by decide +kernel
  show (fastBuiltinMro "list").map (·.contains (.ref C)) = some false
  rw [e]
  first
    | rfl
    | simp
theorem ty_looks {pins : List (Addr × Obj)} {s : Shared} {σ : L2.St} {H : Hp} {y : V} {u : Value} (I : L2.Inv X pins σ H s) (h : TyKn X.K C y H) (r : RelV y u) : ∃ tb, PySem.W.Looks (model X.prog X.w) s.heap (typeOf u) tb ∧ PySem.W.notFirst X.K C tb = true := by
  rcases h with ⟨b, dy, gs, rfl, eb⟩ | ⟨b, ys, rfl, eb⟩
  · obtain ⟨ox, od, J, _⟩ := StX.insC_at I (.inr ⟨dy, gs, eb⟩)
    cases r
    exact ⟨_, J.type, by simp [PySem.W.notFirst]⟩
  · cases r
    obtain ⟨its, rv, ⟨o, n, ho, hc, _, hd⟩, _⟩ := I.list (SqL.of (K := X.K) eb)
    exact ⟨.type "list", hc ▸ (PySem.W.Looks.ld ho).andThen .now, by unfold PySem.W.notFirst; rw [sub_list]; simp⟩
/-- bool(obj) -/
theorem call_boolO (M : OMt X.prog X.w X.K X.mg X.base C k f fd "__bool__" ps sp) (hr : Room (k + 2) X.A) : CallR X (.type "bool") (fun xs H Q => ∃ a dx fs, xs = [.ref a] ∧ H a = some (.ins C dx fs) ∧ sp [.ref a] H (fun v H' => ∃ b, v = .bl b ∧ Q v H') E0) := by
  intro pins s σ H xs us Q I r h
  obtain ⟨a, dx, fs, rfl, ea, q⟩ := h
  obtain ⟨m, fr⟩ := I.fr
  obtain ⟨ox, od, J, _⟩ := StX.insC_at I (.inr ⟨dx, fs, ea⟩)
  cases r with
  | cons r1 r2 =>
  cases r2
  obtain rfl := r1
  refine callType_newIn F.called_bool F.newNe_bool (F.typeCall_bool_1 _) (F.newCall_bool_1 _) (fun obj => F.args_object_init_2 obj _) F.entry_bool_new (meets_bool_in _) ?_
  refine PySem.W.truthy_K fr I.ok.mod.kin J M.mt.at_ M.mt.fn ?_
  refine wpAny_mono (run_own (pins := pins) (σ := σ) (A := X.A.in1.in1) M (vs := [.ref a]) (us := [.ref a]) rfl hr.in1.in1 I (.cons rfl .nil) q) (fun u s' hu => ?_) fun e s' he => he
  obtain ⟨v, H', I', rv, b, rfl, q'⟩ := hu
  cases rv
  exact ⟨rfl, .bl b, H', I', rfl, q'⟩
end
end OwnX

namespace OwnX
open PySem PySem.Spec PyProof.Rows L2 TL
section
variable {X : Cx} {k : Nat} {C f : Addr} {fd : FuncData} {ps : List Str} {sp : Sp}
def TyK2 (K : PySem.W.Frag) (C : Addr) (y : V) (H : Hp) : Prop := TyKn K C y H ∨ ∃ i, y = .int i
theorem sub_int {K : PySem.W.Frag} : PySem.W.subIn K (.type "int") (.ref C) = some false := by
  have e : fastBuiltinMro "int" = some [.type "int", .type "object"] := by decide +kernel
  show (fastBuiltinMro "int").map (·.contains (.ref C)) = some false
  rw [e]
  first
    | rfl
    | simp
theorem ty_looks2 {pins : List (Addr × Obj)} {s : Shared} {σ : L2.St} {H : Hp} {y : V} {u : Value} (I : L2.Inv X pins σ H s) (h : TyK2 X.K C y H) (r : RelV y u) : ∃ tb, PySem.W.Looks (model X.prog X.w) s.heap (typeOf u) tb ∧ PySem.W.notFirst X.K C tb = true := by
  rcases h with h | ⟨i, rfl⟩
  · exact ty_looks I h r
  · obtain ⟨t, rfl⟩ := r
    exact ⟨.type "int", .now, by unfold PySem.W.notFirst; rw [sub_int]; simp⟩
theorem op_eqO2 (M : OMt X.prog X.w X.K X.mg X.base C k f fd "__eq__" ps sp) (hr : Room k X.A) : OpR X (compareOp .Eq) (fun x y H Q => ∃ a dx fs, x = .ref a ∧ H a = some (.ins C dx fs) ∧ TyK2 X.K C y H ∧ sp [.ref a, y] H (fun v H' => ∃ b, v = .bl b ∧ Q v H') E0) := by
  intro pins s σ H x y v u Q I rx ry h
  obtain ⟨a, dx, fs, rfl, ea, ty, q⟩ := h
  obtain ⟨m, fr⟩ := I.fr
  obtain ⟨ox, od, J, _⟩ := StX.insC_at I (.inr ⟨dx, fs, ea⟩)
  cases rx
  obtain ⟨tb, hb, hn⟩ := ty_looks2 I ty ry
  show wpAny (model X.prog X.w) X.A (richCompare .Eq (.ref a) u) (EP X pins σ Q) X.xe s
  refine PySem.W.cmp_K (op := .Eq) (tb := tb) hr.units0 fr I.ok.mod.kin J hb hn M.mt.at_ M.mt.fn ?_
  refine wpAny_mono (run_own (pins := pins) (σ := σ) (A := X.A) M (vs := [.ref a, y]) (us := [.ref a, u]) rfl hr I (.cons rfl (.cons ry .nil)) q) (fun r s' hu => ?_) fun e s' he => he
  obtain ⟨z, H', I', rv, b, rfl, q'⟩ := hu
  cases rv
  exact ⟨.bl b, H', I', rfl, q'⟩
end
end OwnX
namespace Un
open PySem L2 TL
section
variable {P : Program} {w : World} {K : PySem.W.Frag} {mg : Str → Option Value} {base : Heap}
/-! ### what a series tells -/
abbrev sS_eq : Stmt := inClass sSeries 16
structure IsS (K : PySem.W.Frag) (C : Addr) : Prop extends C8.InsC K C where
  lst : PySem.W.kitOne K (.type "list") (.ref C) = some false
  int : PySem.W.kitOne K (.type "int") (.ref C) = some false
theorem call_isS {X : Cx} {C : Addr} (c : IsS K C) (hK : X.K = K := by rfl) : CallR X (.builtin "isinstance") (fun xs H Q => (∃ a dx fs, xs = [.ref a, .ref C] ∧ H a = some (.ins C dx fs) ∧ Q (.bl true) H) ∨ (∃ a ys, xs = [.ref a, .ref C] ∧ H a = some (.lst ys) ∧ Q (.bl false) H) ∨ ∃ i, xs = [.int i, .ref C] ∧ Q (.bl false) H) := by
  subst hK
  intro pins s σ H xs us Q I r h
  rcases h with ⟨a, dx, fs, rfl, ha, q⟩ | ⟨a, ys, rfl, ha, q⟩ | ⟨i, rfl, q⟩
  · exact C8.call_isC c.toInsC pins s σ H _ us Q I r ⟨a, dx, fs, rfl, ha, q⟩
  · exact call_isi pins s σ H _ us Q I r ⟨_, _, _, _, _, rfl, .own C, .base (.lst ha), c.lst, q⟩
  · exact call_isi pins s σ H _ us Q I r ⟨_, _, _, _, _, rfl, .own C, .base (.int i), c.int, q⟩
/-- ==: of two series, of a series and a list or a number -/
def spEqS (C : Addr) : Sp := fun vs H Q _ => (∃ (a b : Addr) (u v u' v' : SerM.Po), vs = [.ref a, .ref b] ∧ SerAt H C a u v ∧ SerAt H C b u' v' ∧ Q (.bl (decide (u = u') && decide (v = v'))) H) ∨ (∃ (a l : Addr) (xs : List V), vs = [.ref a, .ref l] ∧ H l = some (.lst xs) ∧ Q (.bl false) H) ∨ ∃ (a : Addr) (i : Int), vs = [.ref a, .int i] ∧ Q (.bl false) H
theorem scS_eq : FnScope ["self", "other"] ["self", "other"] (defScope sS_eq) := ⟨rfl, rfl, rfl, by decide +kernel, rfl, by decide +kernel, by decide +kernel⟩
theorem ok_serEq {f C : Addr} {fd : FuncData} (F : Fun K "__eq__" "Series.__eq__" sS_eq f fd) (C' : SerC K C) (IN : IsS K C) (mC : mg "Series" = some (.ref C)) (misi : mg "isinstance" = none) : FnOk P w K mg base CX0 1 f fd ["self", "other"] (spEqS C) := by
  refine F.ok scS_eq (fun vs H Q E h => ?_) (fun cdv A outer s H vs Q E hr h => ?_)
  · rcases h with ⟨a, b, u, v, u', v', rfl, _⟩ | ⟨a, l, xs, rfl, _⟩ | ⟨a, i, rfl, _⟩ <;> rfl
  refine ⟨_, (pss_one (ps_ret (pe_and (pe_callB (call_isS IN) (by rfl) misi (by decide +kernel) (pa_cons (pv 1) (pa_cons (C8.pe_gc (v := .ref C) (by rfl) ⟨_, mC, rfl⟩) pa_nil))) (pe_and (pe_cmpR (op_eqI hr.units) (pe_fld (pv 0) rfl) (pe_fld (pv 1) rfl) (nomark _)) (pe_one (pe_cmpR (op_eqI hr.units) (pe_fld (pv 0) rfl) (pe_fld (pv 1) rfl) (nomark _))))))), ?_⟩
  rcases h with ⟨a, b, u, v, u', v', rfl, ⟨dx, x, y, z, h1, h2, h3, h4⟩, ⟨dx', x', y', z', h1', h2', h3', h4'⟩, q⟩ | ⟨a, l, xs, rfl, hl, q⟩ | ⟨a, i, rfl, q⟩
  · refine ⟨.ref b, rfl, .inl ⟨b, dx', _, rfl, h1', true, rfl, iteT ?_⟩⟩
    refine ⟨_, rfl, a, C, dx, _, _, rfl, h1, C'.cl, C'.t, rfl, _, rfl, b, C, dx', _, _, rfl, h1', C'.cl, C'.t, rfl, x, x', u, u', rfl, rfl, SqL.of h2, SqL.of h2', _, rfl, ?_⟩
    by_cases e : u = u'
    · rw [decide_eq_true e] at q ⊢
      refine iteT ?_
      exact ⟨_, rfl, a, C, dx, _, _, rfl, h1, C'.cl, C'.b, rfl, _, rfl, b, C, dx', _, _, rfl, h1', C'.cl, C'.b, rfl, y, y', v, v', rfl, rfl, SqL.of h3, SqL.of h3', q⟩
    · rw [decide_eq_false e] at q ⊢
      exact iteF q
  · exact ⟨.ref l, rfl, .inr (.inl ⟨l, xs, rfl, hl, false, rfl, iteF q⟩)⟩
  · exact ⟨.int i, rfl, .inr (.inr ⟨i, rfl, false, rfl, iteF q⟩)⟩
end
end Un
namespace Un
open PySem L2 TL
section
variable {P : Program} {w : World} {K : PySem.W.Frag} {mg : Str → Option Value} {base : Heap}
end
end Un
/-! ### "".join(reversed(xs)), xs empty -/
namespace JnR
open PySem PySem.Spec PyProof.Rows L2
section
variable {prog : Program} {w : World} {A : Around} {E : Value → Shared → Prop} {s : Shared}
end
section
variable {X : Cx}
end
end JnR

namespace Un
open PySem L2 TL
section
variable {P : Program} {w : World} {K : PySem.W.Frag} {mg : Str → Option Value} {base : Heap}
/-! ### texts of numbers, rows, series -/
abbrev dcS (i : Int) : Str := ((toString i : String) : Str)
theorem str_ext {a b : Str} (h : tl a = tl b) : a = b := by
  cases a; cases b
  congr 1
  exact Array.toList_inj.mp h
theorem dcS_len {n : Int} {k : Nat} (hk : 0 < k) (h : n.natAbs < 10 ^ k) : (dcS n).length ≤ k + 1 := by
  show (Str.ofString (toString n)).length ≤ _
  rw [ofString_length]
  exact int_text_length_le10 hk h
structure DecT (mg : Str → Option Value) : Prop where
  abs : mg "abs" = none
  rev : mg "reversed" = none
  str : mg "str" = none
  divmod : mg "divmod" = none
end
end Un
namespace Un
open PySem L2 TL
section
variable {P : Program} {w : World} {K : PySem.W.Frag} {mg : Str → Option Value} {base : Heap}
def rowT (p : SerM.Po) : Str := ((Str.empty ++ ("[" : Str)) ++ Txt.join (", " : Str) (p.map dcS)) ++ ("]" : Str)
theorem la (a b : Str) : (a ++ b).length = a.length + b.length := strLen_append a b
theorem join_le : ∀ (ys : List Str) (n : Nat), (∀ y ∈ ys, y.length ≤ n) → (Str.join (", " : Str) ys).length ≤ ys.length * (n + 2)
  | [], n, h => Nat.zero_le _
  | [x], n, h => by
    have := h x List.mem_cons_self
    show x.length ≤ 1 * (n + 2)
    omega
  | x :: y :: r, n, h => by
    have h1 := h x List.mem_cons_self
    have h2 := join_le (y :: r) n fun z hz => h z (List.mem_cons_of_mem _ hz)
    show (x ++ (", " : Str) ++ Str.join (", " : Str) (y :: r)).length ≤ _
    rw [la, la, List.length_cons, Nat.succ_mul]
    have h3 : ((", " : Str)).length = 2 := by decide +kernel
    omega
def SmallP (p : SerM.Po) : Prop := p.length ≤ 100 ∧ ∀ i, (SerM.co p i).natAbs < 10 ^ 60
theorem SmallP.mem {p : SerM.Po} (h : SmallP p) {n : Int} (hn : n ∈ p) : n.natAbs < 10 ^ 60 := by
  obtain ⟨i, hi, rfl⟩ := List.mem_iff_getElem.mp hn
  have := h.2 i
  unfold SerM.co at this
  rwa [List.getD_eq_getElem?_getD, List.getElem?_eq_getElem hi] at this
theorem SmallP.len {p : SerM.Po} (h : SmallP p) : ∀ y ∈ p.map dcS, y.length ≤ 61 := fun y hy => by
  obtain ⟨n, hn, rfl⟩ := List.mem_map.mp hy
  exact dcS_len (k := 60) (by decide) (h.mem hn)
theorem SmallP.join {p : SerM.Po} (h : SmallP p) : (Txt.join (", " : Str) (p.map dcS)).length ≤ 6300 := by
  rw [TL.join_eq]
  have h1 := join_le (p.map dcS) 61 h.len
  rw [List.length_map] at h1
  have h2 := Nat.mul_le_mul_right 63 h.1
  exact Nat.le_trans h1 h2
theorem SmallP.row {p : SerM.Po} (h : SmallP p) : (rowT p).length ≤ 6302 := by
  have h1 := h.join
  unfold rowT
  rw [la, la, la]
  have e1 : (("[" : Str)).length = 1 := by decide +kernel
  have e2 : (("]" : Str)).length = 1 := by decide +kernel
  have e3 : (Str.empty : Str).length = 0 := rfl
  omega
end
end Un
namespace Un
open PySem L2 TL
section
variable {P : Program} {w : World} {K : PySem.W.Frag} {mg : Str → Option Value} {base : Heap}
end
end Un
/-! ### {xs} of a list of whole numbers, at the law's own level -/
namespace FmL
open PySem PySem.Spec PyProof.Rows L2
section
variable {X : Cx}
end
end FmL
/-! ### a law's def, called where the checker calls it: what is known of that place may be used -/
namespace AtL
open PySem PySem.Spec PyProof.Rows L2
/-- a promise of the def at f, for the one place callerA -/
structure LawFn (pr : Program) (wo : World) (Kf : PySem.W.Frag) (gm : Str → Option Value) (bs : Heap) (lv : Nat) (at_ : Addr) (code : FuncData) (names : List Str) (prom : Sp) : Prop where
  count : ∀ xs h q e, prom xs h q e → xs.length = names.length
  goes : ∀ (up : List Env) (st : Shared) (h : Hp) (ar : Args) (raw : List Value) (xs : List V) (q : VK) (e : XK),
    Env0 pr wo Kf gm bs callerA up st h → BindsTo st code ar (names.zip raw) → Vals xs raw →
    prom xs h q e → codeAny (model pr wo) callerA (.call (.ref at_) ar) (CR CX0 up pr wo h st q e) st
end AtL
namespace Un
section
end
end Un
namespace Un
open PySem L2 TL
section
variable {P : Program} {w : World} {K : PySem.W.Frag} {mg : Str → Option Value} {base : Heap}
/-! ### the sizes in the law -/
theorem trim_len_le {p : SerM.Po} {n : Nat} (h : ∀ i, n ≤ i → SerM.co p i = 0) : (SerM.trim p).length ≤ n := by
  by_cases ne : SerM.trim p = []
  · rw [ne]; exact Nat.zero_le _
  · have l := SerM.tm_lead (SerM.trim_tm p) ne
    have h0 : 0 < (SerM.trim p).length := List.length_pos_iff.mpr ne
    refine Nat.le_of_not_lt fun lt => l.ne ?_
    rw [← l.at_, SerM.trim_co]
    exact h _ (by omega)
/-- a top and a bottom as the law draws them -/
structure Drawn (p q : SerM.Po) : Prop where
  pl : p.length ≤ 4
  ql : q.length ≤ 4
  pc : ∀ i, (SerM.co p i).natAbs ≤ 9
  qc : ∀ i, (SerM.co q i).natAbs ≤ 9
  q1 : SerM.ev q 0 = 1
theorem lt_pow {p : SerM.Po} {A c : Nat} (h : ∀ i, (SerM.co p i).natAbs ≤ A) (hA : A < 2 ^ c) : ∀ i, (SerM.co p i).natAbs < 2 ^ c := fun i => Nat.lt_of_le_of_lt (h i) hA
theorem Drawn.sml {p q : SerM.Po} (D : Drawn p q) : SerM.Sml p q p q 9 4 9 4 330 :=
  ⟨D.q1, D.q1, fun x => rfl, D.pl, D.ql, D.pc, D.qc, D.ql, D.qc, by decide +kernel⟩
theorem Drawn.inn {p q : SerM.Po} (D : Drawn p q) : RedIn p q 4 :=
  ⟨by have := D.pl; omega, by have := D.ql; omega, lt_pow D.pc (by decide), lt_pow D.qc (by decide), by decide, p, q, 9, 4, 9, 4, 330, D.sml, by decide⟩
structure Fact (F : SerM.Po) : Prop where
  fl : F.length ≤ 3
  fc : ∀ i, (SerM.co F i).natAbs ≤ 4
  f1 : SerM.ev F 0 = 1
/-- the reduced form of what is drawn is small -/
structure RedS (u v : SerM.Po) : Prop where
  ul : u.length ≤ 4
  vl : v.length ≤ 4
  v1 : 1 ≤ v.length
  uc : ∀ i, (SerM.co u i).natAbs < 2 ^ 29
  vc : ∀ i, (SerM.co v i).natAbs < 2 ^ 29
theorem Drawn.redS {p q u v : SerM.Po} (D : Drawn p q) (R : SerM.Red p q u v) : RedS u v := by
  obtain ⟨h1, h2, h3, h4⟩ := SerM.red_small (A := 9) (m := 4) D.q1 R D.pl D.ql D.pc D.qc
  have hb : SerM.fb 9 4 < 2 ^ 29 := by decide +kernel
  refine ⟨h1, h2, Nat.pos_of_ne_zero fun z => ?_, fun i => Nat.lt_of_le_of_lt (h3 i) hb, fun i => Nat.lt_of_le_of_lt (h4 i) hb⟩
  have := R.v1
  rw [List.length_eq_zero_iff.mp z] at this
  exact absurd this (by decide)
theorem Drawn.so {p q u v : SerM.Po} (D : Drawn p q) (R : SerM.Red p q u v) : SoIn p q u v 4 29 := by
  have S := D.redS R
  refine ⟨R, by have := D.pl; omega, by have := D.ql; omega, by have := S.ul; omega, by have := S.vl; omega, lt_pow D.pc (by decide), lt_pow D.qc (by decide), S.uc, S.vc, by decide, by decide, ?_⟩
  have h1 : 2 ^ (u.length + v.length) ≤ 2 ^ 8 := Nat.pow_le_pow_right (by decide) (by have := S.ul; have := S.vl; omega)
  have h2 := Nat.mul_le_mul_left (29 + 1) h1
  exact Nat.le_trans h2 (by decide)
theorem RedS.small {u v : SerM.Po} (S : RedS u v) : SmallP u ∧ SmallP v :=
  ⟨⟨by have := S.ul; omega, fun i => Nat.lt_of_lt_of_le (S.uc i) (by decide +kernel)⟩, ⟨by have := S.vl; omega, fun i => Nat.lt_of_lt_of_le (S.vc i) (by decide +kernel)⟩⟩
/-- the same first coefficient that is not 0 -/
theorem low_zero {u q p v : SerM.Po} (q1 : SerM.ev q 0 = 1) (e : ∀ x, SerM.ev u x * SerM.ev q x = SerM.ev p x * SerM.ev v x) {k : Nat} (h : ∀ i, i < k → SerM.co p i = 0) : ∀ i, i < k → SerM.co u i = 0 := by
  intro i
  induction i using Nat.strongRecOn with
  | ind i ih =>
    intro hi
    have h1 : SerM.co (SerM.mul u q) i = SerM.co (SerM.mul p v) i := SerM.co_of_ev 0 (fun x _ => by rw [SerM.ev_mul, SerM.ev_mul]; exact e x) i
    rw [SerM.co_mul, SerM.co_mul] at h1
    rw [SerM.S_zero (f := fun l => SerM.co p l * SerM.co v (i - l)) fun j hj => by rw [h j (by omega)]; omega] at h1
    have h2 : SerM.S i (fun l => SerM.co u l * SerM.co q (i - l)) = 0 := SerM.S_zero fun j hj => by rw [ih j hj (by omega)]; omega
    have h3 : SerM.S i (fun l => SerM.co u l * SerM.co q (i - l)) + SerM.co u i * SerM.co q (i - i) = 0 := h1
    rw [h2, Nat.sub_self, SerM.co0_ev, q1] at h3
    omega
theorem ord_eq {u q p v : SerM.Po} {z y : V} (q1 : SerM.ev q 0 = 1) (v1 : SerM.ev v 0 = 1) (e : ∀ x, SerM.ev u x * SerM.ev q x = SerM.ev p x * SerM.ev v x) (hz : OrdV u z) (hy : OrdV p y) : z = y := by
  have a : ∀ {k : Nat}, (∀ i, i < k → SerM.co p i = 0) → ∀ i, i < k → SerM.co u i = 0 := fun h => low_zero q1 e h
  have b : ∀ {k : Nat}, (∀ i, i < k → SerM.co u i = 0) → ∀ i, i < k → SerM.co p i = 0 := fun h => low_zero v1 (fun x => (e x).symm) h
  rcases hz with ⟨k, k1, k2, k3, rfl⟩ | ⟨k0, rfl⟩ <;> rcases hy with ⟨j, j1, j2, j3, rfl⟩ | ⟨j0, rfl⟩
  · rcases Nat.lt_trichotomy k j with h | h | h
    · exact absurd (a j3 k h) k2
    · rw [h]
    · exact absurd (b k3 j h) j2
  · exact absurd (a (k := k + 1) (fun i _ => j0 i) k (by omega)) k2
  · exact absurd (b (k := j + 1) (fun i _ => k0 i) j (by omega)) j2
  · rfl
/-- a top with one coefficient more by one -/
def bump (p : SerM.Po) (k : Nat) : SerM.Po := SerM.trim (SerM.add p (SerM.smul 1 (List.replicate k 0 ++ [1])))
theorem co_bump0 (k i : Nat) : SerM.co (List.replicate k 0 ++ [1]) i = if i = k then 1 else 0 := by
  rw [co_snoc, List.length_replicate]
  split
  · rename_i h
    rw [if_neg (by omega)]
    unfold SerM.co
    rw [List.getD_eq_getElem?_getD, List.getElem?_replicate, if_pos h]; rfl
  · rfl
theorem co_bump (p : SerM.Po) (k i : Nat) : SerM.co (bump p k) i = SerM.co p i + if i = k then 1 else 0 := by
  unfold bump
  rw [SerM.trim_co, SerM.co_add, SerM.co_smul, co_bump0]; omega
theorem Drawn.bump {p q : SerM.Po} (D : Drawn p q) {k : Nat} (hk : k ≤ 11) : RedIn (bump p k) q 4 := by
  have l : (Un.bump p k).length ≤ 12 := trim_len_le fun i hi => by
    rw [SerM.co_add, SerM.co_smul, co_bump0, if_neg (by omega), SerM.co_len (by have := D.pl; omega)]; omega
  have c : ∀ i, (SerM.co (Un.bump p k) i).natAbs ≤ 10 := fun i => by
    rw [co_bump]
    have := D.pc i
    split <;> omega
  refine ⟨by omega, by have := D.ql; omega, lt_pow c (by decide), lt_pow D.qc (by decide), by decide, Un.bump p k, q, 10, 12, 9, 4, 2970, ?_, by decide⟩
  exact ⟨D.q1, D.q1, fun x => rfl, l, by have := D.ql; omega, c, fun i => Nat.le_trans (D.qc i) (by decide), D.ql, D.qc, by decide +kernel⟩
end
end Un
namespace Un
open PySem L2 TL
section
variable {P : Program} {w : World} {K : PySem.W.Frag} {mg : Str → Option Value} {base : Heap}
end
end Un
/-! ### an own class under + - * << >> and unary - -/
namespace BinO
open PySem PySem.Spec PyProof.Rows L2
section
variable {prog : Program} {w : World} {A : Around} {E : Value → Shared → Prop} {s : Shared} {K : PySem.W.Frag} {C f g : Addr} {cd : ClassData} {nm : String}
/-- the class's own methods for an operator -/
structure Has (K : PySem.W.Frag) (C : Addr) (nm : String) (f : Addr) : Prop where
  mro : ∃ cd, PySem.W.clsIn K C = some cd ∧ cd.mro = [.ref C, .type "object"]
  at_ : PySem.W.findIn K (.ref C) (dunder nm) = some (some (.ref f))
  fn : PySem.W.isFn K (.ref f) = true
/-- the reflected method, as the class has it or not -/
def HasR (K : PySem.W.Frag) (C : Addr) (nm : String) : Prop := ∃ r, PySem.W.findIn K (.ref C) (dunderR nm) = some r ∧ (r = none ∨ ∃ g, r = some (.ref g))
end
section
variable {X : Cx} {k k2 : Nat} {C f g : Addr} {fd gd : FuncData} {ps qs : List Str} {sp rp : Sp} {op : Operator} {m : Str}
/-- the class's mro and what int has, for an operator -/
structure OpK (K : PySem.W.Frag) (C : Addr) (nm : String) (m : Str) : Prop where
  mro : ∃ cd, PySem.W.clsIn K C = some cd ∧ cd.mro = [.ref C, .type "object"]
  eqm : m = dunder nm
  refl : HasR K C nm
  fi : fillsNumberSlot (.type "int") nm = pure true
  li : ∃ ri, PySem.W.findIn K (.type "int") (dunderR nm) = some ri
end
end BinO
namespace Un
section
end
end Un
namespace Un
open PySem L2 TL
section
variable {P : Program} {w : World} {K : PySem.W.Frag} {mg : Str → Option Value} {base : Heap}
/-! ### series: sizes, values -/
structure Sz where
  m : Nat
  A : Nat
structure Frac (p q : SerM.Po) (z : Sz) : Prop where
  pl : p.length ≤ z.m
  ql : q.length ≤ z.m
  pc : ∀ i, (SerM.co p i).natAbs ≤ z.A
  qc : ∀ i, (SerM.co q i).natAbs ≤ z.A
  q1 : SerM.ev q 0 = 1
structure FitN (z : Sz) (m2 A2 : Nat) : Prop where
  m : m2 ≤ 90
  A : A2 < 2 ^ 8900
  b : SerM.rb2 z.A z.m * SerM.fb A2 m2 < 2 ^ 4489
theorem Frac.inn {P Q p q : SerM.Po} {z : Sz} {m2 A2 : Nat} (F : Frac P Q z) (N : FitN z m2 A2) (pl : p.length ≤ m2) (ql : q.length ≤ m2) (pc : ∀ i, (SerM.co p i).natAbs ≤ A2) (qc : ∀ i, (SerM.co q i).natAbs ≤ A2) (q1 : SerM.ev q 0 = 1) (same : ∀ x, SerM.ev p x * SerM.ev Q x = SerM.ev P x * SerM.ev q x) : RedIn p q 8900 :=
  ⟨Nat.le_trans pl N.m, Nat.le_trans ql N.m, lt_pow pc N.A, lt_pow qc N.A, Nat.le_refl _, P, Q, z.A, z.m, A2, m2, 4490, ⟨q1, F.q1, same, F.pl, F.ql, F.pc, F.qc, ql, qc, N.b⟩, Nat.le_refl _⟩
/-- the series P / Q stands at a -/
def Val (H : Hp) (C a : Addr) (P Q : SerM.Po) (z : Sz) : Prop := Frac P Q z ∧ ∃ u v, SerAt H C a u v ∧ SerM.Red P Q u v
theorem Val.same {H H' : Hp} {C a : Addr} {P Q : SerM.Po} {z : Sz} (h : Val H C a P Q z) (s : Same H H') : Val H' C a P Q z := by
  obtain ⟨f, u, v, h1, h2⟩ := h
  exact ⟨f, u, v, h1.same s, h2⟩
/-- what stands there -/
structure Rows (H : Hp) (C a dx x y : Addr) (o : V) (P Q u v : SerM.Po) (z : Sz) : Prop where
  ha : H a = some (.ins C dx (serFs x y o))
  hx : H x = some (.lst (iv u))
  hy : H y = some (.lst (iv v))
  ord : OrdV u o
  red : SerM.Red P Q u v
  ul : u.length ≤ z.m
  vl : v.length ≤ z.m
  uc : ∀ i, (SerM.co u i).natAbs ≤ SerM.fb z.A z.m
  vc : ∀ i, (SerM.co v i).natAbs ≤ SerM.fb z.A z.m
theorem Val.rows {H : Hp} {C a : Addr} {P Q : SerM.Po} {z : Sz} (h : Val H C a P Q z) : ∃ dx x y o u v, Rows H C a dx x y o P Q u v z := by
  obtain ⟨f, u, v, ⟨dx, x, y, o, h1, h2, h3, h4⟩, R⟩ := h
  obtain ⟨a1, a2, a3, a4⟩ := SerM.red_small f.q1 R f.pl f.ql f.pc f.qc
  exact ⟨dx, x, y, o, u, v, h1, h2, h3, h4, R, a1, a2, a3, a4⟩
theorem Rows.same {H H' : Hp} {C a dx x y : Addr} {o : V} {P Q u v : SerM.Po} {z : Sz} (h : Rows H C a dx x y o P Q u v z) (s : Same H H') : Rows H' C a dx x y o P Q u v z :=
  ⟨s _ _ h.ha, s _ _ h.hx, s _ _ h.hy, h.ord, h.red, h.ul, h.vl, h.uc, h.vc⟩
theorem ser_made {C a dx : Addr} {H : Hp} {x y : V} {p q : SerM.Po} {c : Nat} {R : Hp → Prop} (ha : H a = none) (hdx : H dx = none) (ne : dx ≠ a) (Rx : RowV K H x p) (Ry : RowV K H y q) (I : RedIn p q c) (h : ∀ (u v : SerM.Po) (H' : Hp), SerM.Red p q u v → Same H H' → SerNew H H' C a u v → R H') :
    spSerI K C [.ref a, x, y] (upd (upd H dx (.own a)) a (.ins C dx [])) (fun v H2 => v = .non ∧ R H2) E0 := by
  have h1 : upd H dx (.own a) a = none := by rw [upd_ne ne.symm]; exact ha
  have s : Same H (upd (upd H dx (.own a)) a (.ins C dx [])) := (same_upd hdx _).trans (same_upd h1 _)
  refine ⟨a, dx, x, y, p, q, c, rfl, upd_same, Rx.same s, Ry.same s, I, fun u v H' R keep S => ⟨rfl, h u v H' R (fun b o hb => ?_) ?_⟩⟩
  · exact keep b o (ne_of_none hb ha) (s b o hb)
  · obtain ⟨dx', x', y', z', h1, h2, h3, h4, h5, h6⟩ := S
    exact ⟨dx', x', y', z', h1, h2, h3, h4, s.free h5, s.free h6⟩
theorem ser_madeV {C a dx : Addr} {H : Hp} {x y : V} {p q P' Q' : SerM.Po} {z : Sz} {m2 A2 : Nat} {R : Hp → Prop} (ha : H a = none) (hdx : H dx = none) (ne : dx ≠ a) (Rx : RowV K H x p) (Ry : RowV K H y q) (F : Frac P' Q' z) (N : FitN z m2 A2) (pl : p.length ≤ m2) (ql : q.length ≤ m2) (pc : ∀ i, (SerM.co p i).natAbs ≤ A2) (qc : ∀ i, (SerM.co q i).natAbs ≤ A2) (q1 : SerM.ev q 0 = 1) (same : ∀ x, SerM.ev p x * SerM.ev Q' x = SerM.ev P' x * SerM.ev q x) (h : ∀ (H' : Hp), Same H H' → Val H' C a P' Q' z → R H') :
    spSerI K C [.ref a, x, y] (upd (upd H dx (.own a)) a (.ins C dx [])) (fun v H2 => v = .non ∧ R H2) E0 :=
  ser_made ha hdx ne Rx Ry (F.inn N pl ql pc qc q1 same) fun u v H' Rd s S => h H' s ⟨F, u, v, S.at_, SerM.red_of F.q1 q1 same Rd⟩
structure Fit1 (z : Sz) : Prop where
  a : FitN z z.m z.A
  b : FitN z z.m (SerM.fb z.A z.m)
/-- a series, or the series of a number -/
def Oth (H : Hp) (C : Addr) (y : V) (P Q : SerM.Po) (z : Sz) : Prop := (∃ b, y = .ref b ∧ Val H C b P Q z) ∨ ∃ i : Int, y = .int i ∧ P = [i] ∧ Q = [1] ∧ Frac P Q z
theorem Oth.same {H H' : Hp} {C : Addr} {y : V} {P Q : SerM.Po} {z : Sz} (h : Oth H C y P Q z) (s : Same H H') : Oth H' C y P Q z := by
  rcases h with ⟨b, rfl, h⟩ | h
  · exact .inl ⟨b, rfl, h.same s⟩
  · exact .inr h
/-- how the class is called: two values; one, the other's value is (1,) -/
structure MakS (P : Program) (w : World) (K : PySem.W.Frag) (mg : Str → Option Value) (base : Heap) (C : Addr) (fI : Addr) (fd : FuncData) (d : V) (dv : List Value) : Prop where
  mkS : Mk K C fI
  ok : FnOk P w K mg base CX0 5 fI fd serPs (spSerI K C)
  m : mg "Series" = some (.ref C)
  b2 : Binds K fd serPs []
  b1 : Binds K fd serPs dv
  dS : Vals [d] dv
  row : ∀ H, RowV K H d [1]
theorem co_neg (u : SerM.Po) (i : Nat) : SerM.co (u.map fun z => -z) i = - SerM.co u i := by
  unfold SerM.co
  rw [List.getD_eq_getElem?_getD, List.getD_eq_getElem?_getD, List.getElem?_map]
  cases u[i]? <;> simp
theorem RowV.lst {H : Hp} {a : Addr} {p : SerM.Po} (h : H a = some (.lst (iv p))) : RowV K H (.ref a) p := ⟨a, rfl, .inl (SqL.of h)⟩
/-! ### unary - -/
end
end Un
namespace Un
open PySem L2 TL
section
variable {P : Program} {w : World} {K : PySem.W.Frag} {mg : Str → Option Value} {base : Heap}
/-! ### + - * of series -/
def AddR (P1 Q1 P2 Q2 P' Q' : SerM.Po) : Prop := ∀ x, SerM.ev P' x * (SerM.ev Q1 x * SerM.ev Q2 x) = (SerM.ev P1 x * SerM.ev Q2 x + SerM.ev P2 x * SerM.ev Q1 x) * SerM.ev Q' x
def MulR (P1 Q1 P2 Q2 P' Q' : SerM.Po) : Prop := ∀ x, SerM.ev P' x * (SerM.ev Q1 x * SerM.ev Q2 x) = SerM.ev P1 x * SerM.ev P2 x * SerM.ev Q' x
theorem cancel2 {Q1 Q2 p q P' Q' : SerM.Po} (h1 : SerM.ev Q1 0 = 1) (h2 : SerM.ev Q2 0 = 1) (h : ∀ x, (SerM.ev p x * SerM.ev Q' x) * (SerM.ev Q1 x * SerM.ev Q2 x) = (SerM.ev P' x * SerM.ev q x) * (SerM.ev Q1 x * SerM.ev Q2 x)) : ∀ x, SerM.ev p x * SerM.ev Q' x = SerM.ev P' x * SerM.ev q x := fun x => by
  have hz : SerM.ev (SerM.mul Q1 Q2) 0 = 1 := by rw [SerM.ev_mul, h1, h2]; rfl
  have := SerM.ev_cancel (a := SerM.mul p Q') (b := SerM.mul P' q) (SerM.nz_of1 hz) fun x => by
    rw [SerM.ev_mul, SerM.ev_mul, SerM.ev_mul]
    have := h x
    grind
  have := this x
  rw [SerM.ev_mul, SerM.ev_mul] at this
  exact this
end
end Un
namespace Un
open PySem L2 TL
section
variable {P : Program} {w : World} {K : PySem.W.Frag} {mg : Str → Option Value} {base : Heap}
/-! ### the reflected operators, - -/
theorem Frac.neg {p q : SerM.Po} {z : Sz} (F : Frac p q z) : Frac (p.map fun t => -t) q z :=
  ⟨by rw [List.length_map]; exact F.pl, F.ql, fun i => by rw [co_neg, Int.natAbs_neg]; exact F.pc i, F.qc, F.q1⟩
/-! ### one size for all -/
abbrev uni : Sz := ⟨9, 1048576⟩
theorem fit1U : Fit1 uni := ⟨⟨by decide, by decide +kernel, by decide +kernel⟩, ⟨by decide, by decide +kernel, by decide +kernel⟩⟩
abbrev ValU (H : Hp) (C a : Addr) (p q : SerM.Po) : Prop := Val H C a p q uni
theorem ValU.so {H : Hp} {C a : Addr} {p q : SerM.Po} (h : ValU H C a p q) : ∃ u v, SerAt H C a u v ∧ SoIn p q u v 21 96 := by
  obtain ⟨F, u, v, S, R⟩ := h
  obtain ⟨a1, a2, a3, a4⟩ := SerM.red_small F.q1 R F.pl F.ql F.pc F.qc
  have hb : SerM.fb uni.A uni.m < 2 ^ 96 := by decide +kernel
  have c : ∀ {p : SerM.Po}, (∀ i, (SerM.co p i).natAbs ≤ uni.A) → ∀ i, (SerM.co p i).natAbs < 2 ^ 21 := fun h i => Nat.lt_of_le_of_lt (h i) (by decide)
  have m9 : uni.m = 9 := rfl
  have p1 := F.pl
  have p2 := F.ql
  refine ⟨u, v, S, R, by omega, by omega, by omega, by omega, c F.pc, c F.qc, lt_pow a3 hb, lt_pow a4 hb, by decide, by decide, ?_⟩
  have h1 : 2 ^ (u.length + v.length) ≤ 2 ^ 18 := Nat.pow_le_pow_right (by decide) (by omega)
  exact Nat.le_trans (Nat.mul_le_mul_left (96 + 1) h1) (by decide)
end
end Un
namespace Un
open PySem L2 TL
section
variable {P : Program} {w : World} {K : PySem.W.Frag} {mg : Str → Option Value} {base : Heap}
/-! ### errors that are raised -/
open XV
def spI0 (C : Addr) (c : Str) : Sp := fun vs H Q _ => ∃ a, vs = [.ref a] ∧ H a = some (exo a C none) ∧ ∀ d H', H d = none → d ≠ a → H' a = some (exo a C (some d)) → H' d = some (exd d [("code", .str c)]) → (∀ b o, H b = some o → b ≠ a → H' b = some o) → Q .non H'
abbrev sEInvalidForm : Stmt := inClass (top 7) 0
theorem scEInvalidForm : FnScope ["self"] ["self"] (defScope sEInvalidForm) := ⟨rfl, rfl, rfl, by decide +kernel, rfl, by decide +kernel, by decide +kernel⟩
theorem ok_eInvalidForm {f C : Addr} {fd : FuncData} (F : Fun K "__init__" "InvalidForm.__init__" sEInvalidForm f fd) (T : OexG K C) (n0 : PySem.W.findIn K (.ref C) "code" = some none) : FnOk P w K mg base CX0 1 f fd ["self"] (spI0 C "InvalidForm") := by
  refine F.ok scEInvalidForm (fun vs H Q E h => ?_) (fun cdv A outer s H vs Q E hr h => ?_)
  · obtain ⟨a, rfl, _⟩ := h
    rfl
  obtain ⟨a, rfl, ha, q⟩ := h
  refine ⟨_, pss_one (ps_ostG (pv 0) pe_str), ?_⟩
  refine ⟨_, rfl, a, C, rfl, T, n0, .inl ⟨ha, fun d hd nd => ?_⟩⟩
  have na : a ≠ d := Ne.symm nd
  refine q d _ hd nd ?_ ?_ fun b o e nb => ?_
  · first | (rw [upd_ne na, upd_same]) | (rw [upd_same])
  · first | (rw [upd_same]) | (rw [upd_ne nd, upd_same])
  · first | (rw [upd_ne (ne_of_none e hd), upd_ne nb]; exact e) | (rw [upd_ne nb, upd_ne (ne_of_none e hd)]; exact e)
/-- an error class that can be made -/
structure Xr (P : Program) (w : World) (K : PySem.W.Frag) (mg : Str → Option Value) (base : Heap) (C : Addr) (n : Nat) (fI : Addr) (fd : FuncData) (x : Str) (ps : List Str) (sp : Sp) (g : List Value → List Value → List Value) : Prop where
  x : Xm P w K mg base C 1 fI fd x ps sp
  kb : KBn K fd ps (n + 1) [] g (fun vs zs => vs ++ zs)
/-- the way out by an error of class C with the fields fs -/
def XkE (C : Addr) (fs : List (Str × V)) (H : Hp) (E : XK) : Prop := ∀ d H', Same H H' → H d = none → H' d = some (exd d fs) → E (.ref C) (some d) H'
theorem XkE.from {C : Addr} {fs : List (Str × V)} {H H1 : Hp} {E : XK} (h : XkE C fs H E) (s : Same H H1) : XkE C fs H1 E := fun d H' s' hd hd' => h d H' (s.trans s') (s.free hd) hd'
theorem mk_raise0 {X : Cx} {C a : Addr} {c : Str} {H H1 : Hp} {Z : Value → Option Addr → Hp → Prop} (T : OexG X.K C) (hH : X.H_0 = H) (s : Same H H1) (ha : H1 a = none) (z : ∀ d H', Same H1 H' → H1 d = none → H' d = some (exd d [("code", .str c)]) → Z (.ref C) (some d) H') :
    spI0 C c [.ref a] (upd H1 a (exo a C none)) (fun u H3 => u = .non ∧ ∃ a' C' d, V.ref a = .ref a' ∧ H3 a' = some (exo a' C' (some d)) ∧ Fr0 X.H_0 a' ∧ Raises X (.ref C') ∧ Z (.ref C') (some d) (delH H3 a')) E0 := by
  refine ⟨a, rfl, upd_same, fun d H' hd nd ha' hd' keep => ⟨rfl, a, C, d, rfl, ha', fr0_none (by rw [hH]; exact s.free ha), raises_own T.exC T.tyC, ?_⟩⟩
  rw [upd_ne nd] at hd
  refine z d (delH H' a) (fun b o hb => ?_) hd (by rw [delH_ne nd]; exact hd')
  have nb : b ≠ a := ne_of_none hb ha
  rw [delH_ne nb]
  exact keep b o (by rw [upd_ne nb]; exact hb) nb
end
end Un
namespace Un
open PySem L2 TL
section
variable {P : Program} {w : World} {K : PySem.W.Frag} {mg : Str → Option Value} {base : Heap}
open XV
abbrev sField : Stmt := top 56
abbrev sWhy : Stmt := top 52
theorem okE {x qual : Str} {st : Stmt} {f : Addr} {fd : FuncData} {N ps : List Str} {k : Nat} {sp : Addr → Value → Option Addr → Sp} (F : Fun K x qual st f fd) (S : FnScope N ps (defScope st)) (len : ∀ a cls d vs H Q E, sp a cls d vs H Q E → vs.length = ps.length)
    (hb : ∀ (cdv : Value) (A : Around) (outer : List Env) (s : Shared) (H : Hp) (vs : List V) (Q : VK) (E : XK) (p : Addr × Obj) (cls : Value) (d : Option Addr), ExR.Bears (L2H.cxH CX0 P w K mg base N qual (defScope st) f cdv A outer s H E p) p cls d → sp p.1 cls d vs H Q E →
      ∃ t, PSs (L2H.cxH CX0 P w K mg base N qual (defScope st) f cdv A outer s H E p) (defBody st) t ∧ t { nx := fun _ H' => Q .non H', rt := Q } (L2.start N vs) H) : ExR.FnE P w K mg base CX0 (k + 1) f fd ps sp := by
  obtain ⟨oc, od, kV, doc, pm, an, cdv, ct, osl, rfl, lk, hcd⟩ := F.ex
  exact ExR.fn_ofE lk hcd S len fun A outer s H vs Q E p cls d hz hf hr hsp => hb cdv A outer s H vs Q E p cls d ⟨List.mem_singleton.mpr rfl, hz, hf⟩ hsp
def attrsX : List Str := ["code", "order", "value"]
inductive DueOf (fs : List (Str × V)) : Str → List V → Prop where
  | cInvalidForm : DueOf fs "InvalidForm" []
structure ErrAt (K : PySem.W.Frag) (H : Hp) (cls : Value) (d : Option Addr) (code : Str) (due : List V) : Prop where
  ex : ∃ C dd fs, cls = .ref C ∧ XfC K C ∧ (∀ n ∈ attrsX, PySem.W.findIn K (.ref C) n = some none) ∧ d = some dd ∧ H dd = some (exd dd fs) ∧ fs.lookup ("code" : Str) = some (.str code) ∧ DueOf fs code due
theorem ErrAt.same {H H' : Hp} {cls : Value} {d : Option Addr} {code : Str} {due : List V} (h : ErrAt K H cls d code due) (s : Same H H') : ErrAt K H' cls d code due := by
  obtain ⟨C, dd, fs, h1, h2, h3, h4, h5, h6⟩ := h.ex
  exact ⟨C, dd, fs, h1, h2, h3, h4, s _ _ h5, h6⟩
def spFieldE (K : PySem.W.Frag) (a : Addr) (cls : Value) (d : Option Addr) : Sp := fun vs H Q _ => ∃ (code : Str) (due : List V), vs = [.ref a] ∧ ErrAt K H cls d code due ∧ ∀ t H', Same H H' → H t = none → H' t = some (.tup due) → Q (.ref t) H'
theorem scField : FnScope ["_law_e", "_law_code"] ["_law_e"] (defScope sField) := ⟨rfl, rfl, rfl, by decide +kernel, rfl, by decide +kernel, by decide +kernel⟩
theorem ok_fieldE {f : Addr} {fd : FuncData} (F : Fun K "_law_field" "_law_field" sField f fd) : ExR.FnE P w K mg base CX0 1 f fd ["_law_e"] (spFieldE K) := by
  refine okE F scField (fun a cls d vs H Q E h => ?_) (fun cdv A outer s H vs Q E p cls d B h => ?_)
  · obtain ⟨code, due, rfl, _⟩ := h
    rfl
  obtain ⟨code, due, rfl, er, q⟩ := h
  obtain ⟨C, dd, fs, hcl, hxf, hat, hd, hdd, hc, hdue⟩ := er.ex
  refine ⟨_, (pss_cons (ps_set (i := 1) scField.nd rfl (by first | exact Or.inl rfl | exact Or.inr rfl) (ExR.pe_xe B (pv 0)))
 (pss_cons (ps_if (pt_cmpR op_in_seq (pv 1) (pe_tup (pa_cons pe_str (pa_cons pe_str (pa_cons pe_str pa_nil)))) (by rfl))
 (pss_one (ps_ret (pe_tup (pa_cons (ExR.pe_xe B (pv 0)) pa_nil))))
 pss_nil)
 (pss_cons (ps_if (pt_cmpR op_in_seq (pv 1) (pe_tup (pa_cons pe_str (pa_cons pe_str (pa_cons pe_str (pa_cons pe_str (pa_cons pe_str (pa_cons pe_str (pa_cons pe_str pa_nil)))))))) (by rfl))
 (pss_one (ps_ret (pe_tup (pa_cons (ExR.pe_xe B (pv 0)) pa_nil))))
 pss_nil)
 (pss_cons (ps_if (pt_cmpR op_in_seq (pv 1) (pe_tup (pa_cons pe_str (pa_cons pe_str pa_nil))) (by rfl))
 (pss_one (ps_ret (pe_tup (pa_cons (pe_ifExp (pt_cmpR op_eq (pv 1) pe_str (nomark _)) (ExR.pe_xe B (pv 0)) (ExR.pe_xe B (pv 0))) pa_nil))))
 pss_nil)
 (pss_cons (ps_if (pt_cmpR op_in_seq (pv 1) (pe_tup (pa_cons pe_str (pa_cons pe_str (pa_cons pe_str pa_nil)))) (by rfl))
 (pss_one (ps_ret (pe_tup (pa_cons (ExR.pe_xe B (pv 0)) pa_nil))))
 pss_nil)
 (pss_cons (ps_if (pt_cmpR op_in_seq (pv 1) (pe_tup (pa_cons pe_str (pa_cons pe_str pa_nil))) (by rfl))
 (pss_one (ps_ret (pe_tup (pa_cons (ExR.pe_xe B (pv 0)) pa_nil))))
 pss_nil)
 (pss_cons (ps_if (pt_cmpR op_in_seq (pv 1) (pe_tup (pa_cons pe_str (pa_cons pe_str pa_nil))) (by rfl))
 (pss_one (ps_ret (pe_ifExp (pt_cmpR op_eq (pv 1) pe_str (nomark _)) (pe_tup (pa_cons (ExR.pe_xe B (pv 0)) (pa_cons (ExR.pe_xe B (pv 0)) pa_nil))) (pe_tup (pa_cons (ExR.pe_xe B (pv 0)) (pa_cons (ExR.pe_xe B (pv 0)) pa_nil))))))
 pss_nil)
 (pss_cons (ps_if (pt_cmpR op_in_seq (pv 1) (pe_tup (pa_cons pe_str (pa_cons pe_str pa_nil))) (by rfl))
 (pss_one (ps_ret (pe_tup (pa_cons (pe_ifExp (pt_cmpR op_eq (pv 1) pe_str (nomark _)) (ExR.pe_xe B (pv 0)) (ExR.pe_xe B (pv 0))) pa_nil))))
 pss_nil)
 (pss_cons (ps_if (pt_cmpR op_in_seq (pv 1) (pe_tup (pa_cons pe_str (pa_cons pe_str pa_nil))) (by rfl))
 (pss_one (ps_ret (pe_tup (pa_cons (pe_ifExp (pt_cmpR op_eq (pv 1) pe_str (nomark _)) (ExR.pe_xe B (pv 0)) (ExR.pe_xe B (pv 0))) pa_nil))))
 pss_nil)
 (pss_one (ps_ret (pe_tup pa_nil)))))))))))), ?_⟩
  refine ⟨_, rfl, C, dd, fs, _, rfl, hcl, hxf, hat _ (by decide), hd, hdd, hc, ?_⟩
  have fin : ∀ {H1 H2 : Hp} {t : Addr}, Same H H1 → H1 t = none → H2 = upd H1 t (.tup due) → Q (.ref t) H2 := fun s ht e => q _ _ (by rw [e]; exact s.trans (same_upd ht _)) (s.free ht) (by rw [e]; exact upd_same)
  cases hdue with
  | cInvalidForm =>
    refine ⟨_, rfl, (by show 3 ≤ sizeLine; decide), fun t0 q0 => ⟨t0, _, rfl, .inr (SqT.of upd_same), rfl, rfl, _, rfl, ?_⟩⟩
    have s0 := same_upd q0 (.tup [V.str "InvalidName", V.str "InvalidNumber", V.str "InvalidLimit"])
    generalize (upd H t0 (.tup [V.str "InvalidName", V.str "InvalidNumber", V.str "InvalidLimit"])) = G0 at s0 ⊢
    rw [show inV (V.str "InvalidForm") [V.str "InvalidName", V.str "InvalidNumber", V.str "InvalidLimit"] = false by decide +kernel]
    refine iteF ?_
    refine ⟨_, rfl, (by show 7 ≤ sizeLine; decide), fun t1 q1 => ⟨t1, _, rfl, .inr (SqT.of upd_same), rfl, rfl, _, rfl, ?_⟩⟩
    have s1 := s0.trans (same_upd q1 (.tup [V.str "InvalidPart", V.str "InvalidOuts", V.str "InvalidUse", V.str "InvalidSheet", V.str "InvalidFact", V.str "InvalidDeed", V.str "InvalidCommand"]))
    generalize (upd G0 t1 (.tup [V.str "InvalidPart", V.str "InvalidOuts", V.str "InvalidUse", V.str "InvalidSheet", V.str "InvalidFact", V.str "InvalidDeed", V.str "InvalidCommand"])) = G1 at s1 ⊢
    rw [show inV (V.str "InvalidForm") [V.str "InvalidPart", V.str "InvalidOuts", V.str "InvalidUse", V.str "InvalidSheet", V.str "InvalidFact", V.str "InvalidDeed", V.str "InvalidCommand"] = false by decide +kernel]
    refine iteF ?_
    refine ⟨_, rfl, (by show 2 ≤ sizeLine; decide), fun t2 q2 => ⟨t2, _, rfl, .inr (SqT.of upd_same), rfl, rfl, _, rfl, ?_⟩⟩
    have s2 := s1.trans (same_upd q2 (.tup [V.str "InvalidText", V.str "InvalidPage"]))
    generalize (upd G1 t2 (.tup [V.str "InvalidText", V.str "InvalidPage"])) = G2 at s2 ⊢
    rw [show inV (V.str "InvalidForm") [V.str "InvalidText", V.str "InvalidPage"] = false by decide +kernel]
    refine iteF ?_
    refine ⟨_, rfl, (by show 3 ≤ sizeLine; decide), fun t3 q3 => ⟨t3, _, rfl, .inr (SqT.of upd_same), rfl, rfl, _, rfl, ?_⟩⟩
    have s3 := s2.trans (same_upd q3 (.tup [V.str "DuplicateName", V.str "UnlikeKinds", V.str "UnknownName"]))
    generalize (upd G2 t3 (.tup [V.str "DuplicateName", V.str "UnlikeKinds", V.str "UnknownName"])) = G3 at s3 ⊢
    rw [show inV (V.str "InvalidForm") [V.str "DuplicateName", V.str "UnlikeKinds", V.str "UnknownName"] = false by decide +kernel]
    refine iteF ?_
    refine ⟨_, rfl, (by show 2 ≤ sizeLine; decide), fun t4 q4 => ⟨t4, _, rfl, .inr (SqT.of upd_same), rfl, rfl, _, rfl, ?_⟩⟩
    have s4 := s3.trans (same_upd q4 (.tup [V.str "Circular", V.str "UnknownPiece"]))
    generalize (upd G3 t4 (.tup [V.str "Circular", V.str "UnknownPiece"])) = G4 at s4 ⊢
    rw [show inV (V.str "InvalidForm") [V.str "Circular", V.str "UnknownPiece"] = false by decide +kernel]
    refine iteF ?_
    refine ⟨_, rfl, (by show 2 ≤ sizeLine; decide), fun t5 q5 => ⟨t5, _, rfl, .inr (SqT.of upd_same), rfl, rfl, _, rfl, ?_⟩⟩
    have s5 := s4.trans (same_upd q5 (.tup [V.str "InUse", V.str "TooMany"]))
    generalize (upd G4 t5 (.tup [V.str "InUse", V.str "TooMany"])) = G5 at s5 ⊢
    rw [show inV (V.str "InvalidForm") [V.str "InUse", V.str "TooMany"] = false by decide +kernel]
    refine iteF ?_
    refine ⟨_, rfl, (by show 2 ≤ sizeLine; decide), fun t6 q6 => ⟨t6, _, rfl, .inr (SqT.of upd_same), rfl, rfl, _, rfl, ?_⟩⟩
    have s6 := s5.trans (same_upd q6 (.tup [V.str "TooEarly", V.str "InvalidTable"]))
    generalize (upd G5 t6 (.tup [V.str "TooEarly", V.str "InvalidTable"])) = G6 at s6 ⊢
    rw [show inV (V.str "InvalidForm") [V.str "TooEarly", V.str "InvalidTable"] = false by decide +kernel]
    refine iteF ?_
    refine ⟨_, rfl, (by show 2 ≤ sizeLine; decide), fun t7 q7 => ⟨t7, _, rfl, .inr (SqT.of upd_same), rfl, rfl, _, rfl, ?_⟩⟩
    have s7 := s6.trans (same_upd q7 (.tup [V.str "Full", V.str "Ring"]))
    generalize (upd G6 t7 (.tup [V.str "Full", V.str "Ring"])) = G7 at s7 ⊢
    rw [show inV (V.str "InvalidForm") [V.str "Full", V.str "Ring"] = false by decide +kernel]
    refine iteF ?_
    exact ⟨(by show 0 ≤ sizeLine; decide), fun t ht => fin s7 ht rfl⟩
end
end Un
namespace Un
open PySem L2 TL
section
variable {P : Program} {w : World} {K : PySem.W.Frag} {mg : Str → Option Value} {base : Heap}
abbrev whyN : List Str := ["_law_ask", "_law_e"]
theorem scWhy : FnScope whyN ["_law_ask"] (defScope sWhy) := ⟨rfl, rfl, rfl, by decide +kernel, rfl, by decide +kernel, by decide +kernel⟩
/-- what an error must be for `_law_why` to tell it -/
def EWhy (K : PySem.W.Frag) (cs : List Value) (Q : VK) : XK := fun cls d H' => ∃ code due, ErrAt K H' cls d code due ∧ PySem.W.exmAny K cls cs = some true ∧
  ∀ (t t1 : Addr) (H'' : Hp), Same H' H'' → H' t = none → H'' t1 = some (.tup due) → H'' t = some (.tup [.str code, .ref t1]) → Q (.ref t) H''
def TWhy (K : PySem.W.Frag) (cs : List Value) : (XK → Hp → VK → Prop) → Hp → VK → Prop := fun tl H Q => tl (EWhy K cs Q) H fun v H1 => ([.str "", v] : List V).length ≤ sizeLine ∧ ∀ t, H1 t = none → Q (.ref t) (upd H1 t (.tup [.str "", v]))
theorem why_gives {X : Cx} {g ff U M NL : Addr} {cdg : Value} {q : Str} {k : Nat} {fd : FuncData} (hr : Room (k + 1) X.A) (GF : ExR.FnE X.prog X.w X.K X.mg X.base CX0 k ff fd ["_law_e"] (spFieldE X.K)) (bF : Binds X.K fd ["_law_e"] []) (kF : PySem.W.keepIn X.K (.ref ff) = true) (mF : X.mg "_law_field" = some (.ref ff))
    (mU : X.mg "UnopenedError" = some (.ref U)) (mM : X.mg "Missing" = some (.ref M)) (mN : X.mg "NothingLeft" = some (.ref NL)) :
    LamX.GivesTo X whyN "_law_why" (defScope sWhy) g cdg (defBody sWhy) "_law_ask" q (TWhy X.K [.ref U, .ref M, .ref NL]) := by
  intro f c' s H Q tl act hc h
  let Y : Cx := (cxOf C8.CX0 X.prog X.w X.K X.mg X.base whyN "_law_why" (defScope sWhy) g cdg X.A X.stack s H C8.E0).nox
  have hrY : L2H.RoomH k Y.A := L2H.roomH_of (hr.deeper _)
  refine ⟨_, pss_one (ExR.ps_try_as3 (X := Y) (i := 1) (c1 := .ref U) (c2 := .ref M) (c3 := .ref NL)
      (tb := fun W D σ H => ∃ Ech : XK, (∀ cls d σ' H', Ech cls d H' → σ'.length = 2 → W cls d σ' H') ∧ tRet (tTup (tCons (tC (.str "")) (tCons (fun σZ HZ Q => σZ[0]? = some (some (.ref f)) ∧ HZ c' = some (LamX.CodeO c' q) ∧ tl Ech HZ Q) tNil))) D σ H)
      (ts := fun a cls d => tRet (tTup (tCons (ExR.tXe X.K a cls d "code" (tVar 1)) (tCons (fun σ H Q => tCons (tVar 1) tNil σ H fun vs H1 => spFieldE X.K a cls d vs H1 Q E0) tNil))))
      rfl rfl scWhy.nd rfl rfl ⟨by rfl, by decide, .inl mU⟩ ⟨by rfl, by decide, .inl mM⟩ ⟨by rfl, by decide, .inl mN⟩ LamX.takes0 (fun W pn xe tk _ => ?_) (fun a oe cls d pn hz hf => ?_)), ?_⟩
  · refine ⟨fun pins s' σ H' D I h' => ?_⟩
    obtain ⟨Ech, hW, h1⟩ := h'
    have tk' : Takes (Y.tr pn xe) (fun cls d σ H => σ.length = 2 → W cls d σ H) := fun u s' ⟨a, B, sI, pins, σ, H, cls, d, e, I, nb, up, sky, na, os, ag, w⟩ => tk u s' ⟨a, B, sI, pins, σ, H, cls, d, e, I, nb, up, sky, na, os, ag, w I.len⟩
    exact (pss_one (ps_ret (pe_tup (pa_cons pe_str (pa_cons (act (fun cls d σ H => σ.length = 2 → W cls d σ H) pn xe Ech _ _ tk' hW) pa_nil))))).run pins s' σ H' D I h1
  · have B : ExR.Bears (Y.suite a ((a, oe) :: pn)) (a, oe) cls d := ⟨List.mem_cons_self, hz, hf⟩
    exact pss_one (ps_ret (pe_tup (pa_cons (ExR.pe_xe B (pv 1)) (pa_cons (ExR.pe_callE (X := Y.suite a ((a, oe) :: pn)) GF (by exact ⟨hrY.dp, hrY.un⟩) B (by rfl) mF kF bF pass0 (pa_cons (pv 1) pa_nil)) pa_nil))))
  · refine ⟨EWhy X.K [.ref U, .ref M, .ref NL] Q, fun cls d σ' H' he hl => ?_, rfl, hc, h⟩
    obtain ⟨code, due, er, hx, qq⟩ := he
    refine ⟨true, hx, fun _ a ha => ?_, fun z => nomatch z⟩
    obtain ⟨s0, s1, rfl⟩ : ∃ s0 s1, σ' = [s0, s1] := by
      match σ', hl with
      | [s0, s1], _ => exact ⟨s0, s1, rfl⟩
    obtain ⟨C, dd, fs, hcl, hxf, hat, hd, hdd, hcode, hdue⟩ := er.ex
    refine ⟨_, rfl, C, dd, fs, _, rfl, hcl, hxf, hat _ (by decide), hd, hdd, hcode, _, rfl, code, due, rfl, er, fun t1 H1 s1' h0 h1 => ⟨(by show 2 ≤ sizeLine; decide), fun t ht => ?_⟩⟩
    have nt : t1 ≠ t := ne_of_none h1 ht
    exact qq t t1 _ (s1'.trans (same_upd ht _)) (s1'.free ht) (by rw [upd_ne nt]; exact h1) upd_same
end
end Un
namespace Un
open PySem L2 TL
section
variable {P : Program} {w : World} {K : PySem.W.Frag} {mg : Str → Option Value} {base : Heap}
end
end Un
/-! ### a static method off its class; an operator that may raise -/
namespace StaX
open PySem PySem.Spec PyProof.Rows L2
/-- C.m is a staticmethod: its record at p, its def at g -/
structure SMet (K : PySem.W.Frag) (C : Addr) (mc : Value) (m : Str) (p g : Addr) : Prop where
  at_ : PySem.W.findCls K (.ref C) mc m = some (.get (.builtin "staticmethod.__get__") (.ref p) .none (.ref C))
  rc : ∃ rest, PySem.W.recIn K p "staticmethod" = some (.ref g :: rest)
  kp : PySem.W.keepIn K (.ref g) = true
section
variable {X : Cx} {pins : List (Addr × Obj)} {σ : L2.St} {H : Hp} {s : Shared} {C p g : Addr} {mc : Value} {m : Str} {A : Around} {E : Value → Shared → Prop}
end
section
variable {X : Cx} {CX : CXT} {k : Nat} {C p g : Addr} {mc : Value} {fd : FuncData} {ps ks : List Str} {sp : Sp} {dvs : List V} {ds : List Value} {E : XK} {o e : Expr} {es : List Expr} {kws : List Keyword} {m : Str} {pos apos : Pos} {ta : TE} {t tk : TA} {pl : Sem Bool} {gg : List Value → List Value → List Value} {gV : List V → List V → List V}
end
section
variable {X : Cx} {CX : CXT} {k : Nat} {C f : Addr} {fd : FuncData} {ps : List Str} {sp : Sp} {op : Operator} {m : Str} {E : XK}
end
end StaX
namespace Un
section
end
end Un
namespace Un
open PySem L2 TL
section
variable {P : Program} {w : World} {K : PySem.W.Frag} {mg : Str → Option Value} {base : Heap}
/-! ### late, early -/
open XV
abbrev zs (n : Nat) (p : SerM.Po) : SerM.Po := List.replicate n 0 ++ p
theorem ev_rep0 (n : Nat) (x : Int) : SerM.ev (List.replicate n 0) x = 0 := by
  induction n with
  | zero => rfl
  | succ n ih =>
    rw [List.replicate_succ]
    show 0 + x * SerM.ev (List.replicate n 0) x = 0
    rw [ih]; omega
theorem ev_zs (n : Nat) (p : SerM.Po) (x : Int) : SerM.ev (zs n p) x = x ^ n * SerM.ev p x := by
  rw [SerM.ev_app, ev_rep0, List.length_replicate, Int.zero_add]
theorem co_zs (n : Nat) (p : SerM.Po) (i : Nat) : SerM.co (zs n p) i = if i < n then 0 else SerM.co p (i - n) := by
  unfold SerM.co
  rw [List.getD_eq_getElem?_getD, List.getD_eq_getElem?_getD, List.getElem?_append, List.length_replicate]
  split
  · rename_i h
    rw [List.getElem?_replicate, if_pos h]; rfl
  · rfl
theorem co_drop (n : Nat) (p : SerM.Po) (i : Nat) : SerM.co (p.drop n) i = SerM.co p (n + i) := by
  unfold SerM.co
  rw [List.getD_eq_getElem?_getD, List.getD_eq_getElem?_getD, List.getElem?_drop]
theorem ev_one' (x : Int) : SerM.ev [1] x = 1 := by show (1 : Int) + x * 0 = 1; omega
/-- what the program's rows of a made series must keep -/
structure Goal (H : Hp) (C : Addr) (P2 Q2 : SerM.Po) (z2 : Sz) (m2 A2 : Nat) (Q : VK) : Prop where
  f : Frac P2 Q2 z2
  n : FitN z2 m2 A2
  q : ∀ b H', Same H H' → Val H' C b P2 Q2 z2 → Q (.ref b) H'
theorem Goal.same {H H1 : Hp} {C : Addr} {P2 Q2 : SerM.Po} {z2 : Sz} {m2 A2 : Nat} {Q : VK} (g : Goal H C P2 Q2 z2 m2 A2 Q) (s : Same H H1) : Goal H1 C P2 Q2 z2 m2 A2 Q :=
  ⟨g.f, g.n, fun b H' s' V' => g.q b H' (s.trans s') V'⟩
def LateIn (H : Hp) (C a : Addr) (n : Nat) (Q : VK) : Prop := ∃ (P1 Q1 P2 Q2 : SerM.Po) (z z2 : Sz) (m2 A2 : Nat), Val H C a P1 Q1 z ∧ FitN z z.m (SerM.fb z.A z.m) ∧ n ≤ 1000 ∧ n + z.m ≤ m2 ∧ SerM.fb z.A z.m ≤ A2 ∧ Goal H C P2 Q2 z2 m2 A2 Q ∧ ∀ x, SerM.ev P2 x * SerM.ev Q1 x = x ^ n * SerM.ev P1 x * SerM.ev Q2 x
def EarlyIn (H : Hp) (C a : Addr) (n : Nat) (Q : VK) : Prop := ∃ (P1 Q1 P2 Q2 : SerM.Po) (z z2 : Sz) (m2 A2 : Nat), Val H C a P1 Q1 z ∧ FitN z z.m (SerM.fb z.A z.m) ∧ n ≤ 1000 ∧ z.m ≤ m2 ∧ SerM.fb z.A z.m ≤ A2 ∧ (∀ i, i < n → SerM.co P1 i = 0) ∧ Goal H C P2 Q2 z2 m2 A2 Q ∧ ∀ x, x ^ n * SerM.ev P2 x * SerM.ev Q1 x = SerM.ev P1 x * SerM.ev Q2 x
theorem LateIn.same {H H1 : Hp} {C a : Addr} {n : Nat} {Q : VK} (h : LateIn H C a n Q) (s : Same H H1) : LateIn H1 C a n Q := by
  obtain ⟨P1, Q1, P2, Q2, z, z2, m2, A2, V1, N, h1, h2, h3, G, e⟩ := h
  exact ⟨P1, Q1, P2, Q2, z, z2, m2, A2, V1.same s, N, h1, h2, h3, G.same s, e⟩
theorem EarlyIn.same {H H1 : Hp} {C a : Addr} {n : Nat} {Q : VK} (h : EarlyIn H C a n Q) (s : Same H H1) : EarlyIn H1 C a n Q := by
  obtain ⟨P1, Q1, P2, Q2, z, z2, m2, A2, V1, N, h1, h2, h3, h4, G, e⟩ := h
  exact ⟨P1, Q1, P2, Q2, z, z2, m2, A2, V1.same s, N, h1, h2, h3, h4, G.same s, e⟩
end
end Un
namespace Un
open PySem L2 TL
section
variable {P : Program} {w : World} {K : PySem.W.Frag} {mg : Str → Option Value} {base : Heap}
end
end Un
/-! ### an own class's operator, anything on its right -/
namespace AnyX
open PySem PySem.Spec PyProof.Rows L2
section
variable {prog : Program} {w : World} {A : Around} {E : Value → Shared → Prop} {s : Shared} {K : PySem.W.Frag} {C f : Addr} {nm : String}
end
/-- what is no whole number from 0 to 1000 in the law -/
inductive Wrong (H : Hp) : V → Prop where
  | int {i : Int} : ¬ (0 ≤ i ∧ i ≤ 1000) → Wrong H (.int i)
  | bl {b : Bool} : Wrong H (.bl b)
  | non : Wrong H .non
  | str {z : Str} : Wrong H (.str z)
  | tup {a : Addr} : H a = some (.tup [V.int 1]) → Wrong H (.ref a)
theorem Wrong.same {H H' : Hp} {v : V} (h : Wrong H v) (s : Same H H') : Wrong H' v := by
  cases h with
  | int h => exact .int h
  | bl => exact .bl
  | non => exact .non
  | str => exact .str
  | tup h => exact .tup (s _ _ h)
/-- an operator of an own class, a wrong value on its right -/
structure OpA (K : PySem.W.Frag) (C : Addr) (nm : String) (m : Str) : Prop where
  k : BinO.OpK K C nm m
  fb : fillsNumberSlot (.type "bool") nm = pure true
  fn : fillsNumberSlot (.type "NoneType") nm = pure false
  fs : fillsNumberSlot (.type "str") nm = pure false
  ft : fillsNumberSlot (.type "tuple") nm = pure false
  lb : ∃ ri, PySem.W.findIn K (.type "bool") (dunderR nm) = some ri
section
variable {X : Cx} {CX : CXT} {k : Nat} {C f : Addr} {fd : FuncData} {ps : List Str} {sp : Sp} {op : Operator} {m : Str} {E : XK}
end
end AnyX
namespace Un
section
end
end Un
/-! ### dicts whose values are compared by an own == -/
namespace DQ
open PySem PySem.Calls PyProof.Rows PyProof.V PySem.Spec PySem.W
section
variable {prog : Program} {w : World} {K : Type} [DecidableEq K] {knd : KeyKind prog w K} {A : Around} {E : Value → Shared → Prop} {s : Shared}
end
end DQ
namespace L2
open PySem PySem.Spec PyProof.Rows
theorem kv_at {κ : Type} : ∀ {ks : List (κ × V)} {vs : List (κ × Value)} {i : Nat} {k : κ} {v : Value}, KV ks vs → vs[i]? = some (k, v) → ∃ p, ks[i]? = some p ∧ p.1 = k ∧ RelV p.2 v := by
  intro ks vs i k v h
  unfold KV at h
  induction h generalizing i with
  | nil => intro e; simp at e
  | @cons p q ps qs h t ih =>
    intro e
    cases i with
    | zero =>
      cases e
      exact ⟨p, rfl, h.1, h.2⟩
    | succ i => exact ih e
end L2
namespace L2
open PySem PySem.Spec PyProof.Rows
section
variable {X : Cx} {n : Nat} {D : Eqv}
end
end L2
namespace L2
open PySem PySem.Spec PyProof.Rows
/-- a dict comprehension over what is walked -/
theorem dc_it {J : It} {n : Nat} {G : Hp → Prop} {Y : Nat → Hp → V → Hp → Prop} (w : Walk J n G Y) {g : TG} {tt : TT} {tk tv : TE} {vs : List Nat} {σ : St} {H1 : Hp} {D : Addr} {Qd : Hp → Prop} (Pv : Nat → Hp → Prop) (h0 : Pv 0 (upd H1 D (.dK []))) (hG : ∀ i H, i ≤ n → Pv i H → G H)
    (hs : ∀ i x H H', i < n → Pv i H → Y i H x H' → g x (wipe σ vs) H' fun σ2 H2 => wipe σ2 vs = wipe σ vs ∧ tt σ2 H2 fun b H3 =>
      if b = true then tk σ2 H3 fun y H4 => tv σ2 H4 fun z H5 => ∃ kvs k, y = kV k ∧ H5 D = some (.dK kvs) ∧ kvs.length < sizeLine ∧ Pv (i + 1) (upd H5 D (.dK (putK kvs k z))) else Pv (i + 1) H3) (hd : ∀ H, Pv n H → Qd H) :
    ∃ W : Nat → Nat → Hp → Prop, (∃ m, W 0 m (upd H1 D (.dK []))) ∧ ∀ i m H, W i m H →
      (J.stop i H ∧ Qd H) ∨ (J.go i H ∧ ∃ Nx : Hp → Prop, (∀ H', Nx H' → ∃ m', m' < m ∧ W (i + 1) m' H') ∧ ∀ x H', J.yld i H x H' → g x (wipe σ vs) H' fun σ2 H2 => wipe σ2 vs = wipe σ vs ∧ tt σ2 H2 fun b H3 =>
        if b = true then tk σ2 H3 fun y H4 => tv σ2 H4 fun z H5 => ∃ kvs k, y = kV k ∧ H5 D = some (.dK kvs) ∧ kvs.length < sizeLine ∧ Nx (upd H5 D (.dK (putK kvs k z))) else Nx H3) := by
  refine ⟨fun i m H => m = n - i ∧ i ≤ n ∧ Pv i H, ⟨n, by simp, Nat.zero_le _, h0⟩, ?_⟩
  rintro i m H ⟨rfl, hi, p⟩
  have q := hG i H hi p
  by_cases hlt : i < n
  · refine .inr ⟨w.goes i H hlt q, Pv (i + 1), fun H' p' => ⟨n - (i + 1), by omega, rfl, hlt, p'⟩, fun x H' y => hs i x H H' hlt p (w.yields i H x H' hlt q y)⟩
  · have e : i = n := by omega
    subst e
    exact .inl ⟨w.stops H q, hd H p⟩
end L2
/-! ### min(xs, default=None) of whole numbers -/
namespace MnD
open PySem PySem.Spec PyProof.Rows L2 PySem.W
theorem un4 {k : Nat} {A : Around} (r : Room k A) : A.units + 4 < cLine := by have := r.un; omega
theorem depth_ints : ∀ ns : List Int, PyData.depthAll (ns.map PyData.int) ≤ 1
  | [] => by decide
  | n :: ns => by
    show max (PyData.depth (.int n)) (PyData.depthAll (ns.map PyData.int)) ≤ 1
    exact Nat.max_le.mpr ⟨(by show 0 ≤ 1; decide), depth_ints ns⟩
theorem alike_ints (ns : List Int) : AlikeAll (ns.map PyData.int) := by
  refine ⟨fun x hx y hy => ?_, fun x hx => ?_⟩
  · obtain ⟨i, _, rfl⟩ := List.mem_map.mp hx
    obtain ⟨j, _, rfl⟩ := List.mem_map.mp hy
    rfl
  · obtain ⟨i, _, rfl⟩ := List.mem_map.mp hx
    exact fun z => nomatch z
theorem fold_min (ns : List Int) : ∀ n : Int, ns.foldl min n ∈ n :: ns ∧ ∀ y ∈ n :: ns, ns.foldl min n ≤ y := by
  induction ns with
  | nil => exact fun n => ⟨List.mem_cons_self, fun y hy => by rw [List.mem_singleton.mp hy]; exact Int.le_refl _⟩
  | cons k r ih =>
    intro n
    obtain ⟨h1, h2⟩ := ih (min n k)
    refine ⟨?_, fun y hy => ?_⟩
    · show r.foldl min (min n k) ∈ _
      rcases List.mem_cons.mp h1 with e | e
      · rw [e]
        by_cases h : n ≤ k
        · rw [Int.min_eq_left h]; exact List.mem_cons_self
        · rw [Int.min_eq_right (by omega)]; exact List.mem_cons_of_mem _ List.mem_cons_self
      · exact List.mem_cons_of_mem _ (List.mem_cons_of_mem _ e)
    · show r.foldl min (min n k) ≤ y
      have h3 := h2 _ List.mem_cons_self
      rcases List.mem_cons.mp hy with e | e
      · rw [e]; exact Int.le_trans h3 (Int.min_le_left _ _)
      · rcases List.mem_cons.mp e with e | e
        · rw [e]; exact Int.le_trans h3 (Int.min_le_right _ _)
        · exact h2 _ (List.mem_cons_of_mem _ e)
def rMinDf (K : PySem.W.Frag) : List V → List V → Hp → VK → Prop := fun vs zs H Q => ∃ (a : Addr) (ns : List Int), vs = [V.ref a] ∧ zs = [.non] ∧ SqL K H a (ns.map V.int) ∧ (ns = [] → Q .non H) ∧ ∀ m, m ∈ ns → (∀ y ∈ ns, m ≤ y) → Q (.int m) H
theorem cr_minDf {X : Cx} (hc : X.calm = true) (hu : X.A.units + 4 < cLine) : CallRK X (.builtin "min") [Str.ofString "default"] (rMinDf X.K) := by
  intro pins s σ H xs zs us ws Q I r1 r2 h
  obtain ⟨a, ns, rfl, rfl, hs, q0, q1⟩ := h
  obtain ⟨its, rv, hl, _⟩ := I.list hs
  rw [Vals.ref1 r1]
  cases r2 with
  | cons r t =>
  cases t
  obtain rfl := r
  have hd := depth_ints ns
  refine min_list_default (d := .none) (I.ok.hd hc) hl.isList (ints_readAll s.heap rv.ints) (alike_ints ns) (by omega) (fun e h' tk hk => ?_) (fun y ys i v h' tk bs e hv hr hk => ?_)
  · have e : ns = [] := List.map_eq_nil_iff.mp e
    exact ⟨.non, H, I.kept hk, rfl, q0 e⟩
  · cases ns with
    | nil => cases e
    | cons n r =>
      obtain ⟨rfl, rfl⟩ : PyData.int n = y ∧ r.map PyData.int = ys := by
        injection e with e1 e2
        exact ⟨e1, e2⟩
      rw [minD_ints] at hr
      obtain ⟨h1, h2⟩ := fold_min r n
      cases hr with
      | int => exact ⟨.int _, H, I.kept hk, ⟨_, rfl⟩, q1 _ h1 h2⟩
end MnD
/-! ### an operator of two own classes -/
namespace BinO
open PySem PySem.Spec PyProof.Rows L2
section
variable {prog : Program} {w : World} {A : Around} {E : Value → Shared → Prop} {s : Shared} {K : PySem.W.Frag} {C C2 f g : Addr} {nm : String}
end
section
variable {X : Cx} {k : Nat} {C C2 f g : Addr} {fd : FuncData} {ps : List Str} {sp : Sp} {op : Operator} {m : Str}
end
end BinO
namespace Un
open PySem L2 TL
section
variable {P : Program} {w : World} {K : PySem.W.Frag} {mg : Str → Option Value} {base : Heap}
/-! ### forms: dicts of series -/
abbrev sAreSources : Stmt := top 40
abbrev sAreBoxes : Stmt := top 41
abbrev sNotZero : Stmt := top 42
/-- a dict whose values are series -/
structure STab (H : Hp) (C d : Addr) (kvs : List (Key × V)) : Prop where
  at_ : H d = some (.dK kvs)
  ser : ∀ p ∈ kvs, ∃ a u v, p.2 = .ref a ∧ SerAt H C a u v
  nd : (kvs.map (·.1)).Nodup
  l : kvs.length ≤ 100
theorem STab.same {H H' : Hp} {C d : Addr} {kvs : List (Key × V)} (h : STab H C d kvs) (s : Same H H') : STab H' C d kvs :=
  ⟨s _ _ h.at_, fun p hp => by
    obtain ⟨a, u, v, e, h1⟩ := h.ser p hp
    exact ⟨a, u, v, e, h1.same s⟩, h.nd, h.l⟩
/-- the same, its dict locked -/
theorem SerAt.lock {H : Hp} {C a d : Addr} {u v : SerM.Po} {od : Obj} {kvs : List (Key × V)} (h : SerAt H C a u v) (hd : H d = some (.dK kvs)) : SerAt (upd H d (.frz od (.dK kvs))) C a u v := by
  obtain ⟨dx, x, y, z, h1, h2, h3, h4⟩ := h
  exact ⟨dx, x, y, z, by rw [upd_ne (ne_of h1 hd (by intro z; cases z))]; exact h1, by rw [upd_ne (ne_of h2 hd (by intro z; cases z))]; exact h2, by rw [upd_ne (ne_of h3 hd (by intro z; cases z))]; exact h3, h4⟩
theorem unlock_same {H H2 : Hp} {d : Addr} {od : Obj} {u : HO} (hd : H d = some u) (s : Same (upd H d (.frz od u)) H2) : Same H (upd H2 d u) := fun a o e => by
  by_cases n : a = d
  · subst n
    rw [hd] at e
    rw [upd_same]
    exact e
  · rw [upd_ne n]
    exact s a o (by rw [upd_ne n]; exact e)
def spAreSrc (C : Addr) : Sp := fun vs H Q _ => ∃ (d : Addr) (kvs : List (Key × V)), vs = [.ref d] ∧ STab H C d kvs ∧ (∀ p ∈ kvs, ∃ z : Str, p.1 = Sum.inr z ∧ IsNm z) ∧ ∀ H', Same H H' → Q (.bl true) H'
theorem scAreSources : FnScope ["value", "key"] ["value"] (defScope sAreSources) := ⟨rfl, rfl, rfl, by decide +kernel, rfl, by decide +kernel, by decide +kernel⟩
theorem ok_areSources {f g C : Addr} {fd gd : FuncData} (F : Fun K "are_sources" "are_sources" sAreSources f fd) (IN : IsS K C) (mC : mg "Series" = some (.ref C)) (misi : mg "isinstance" = none) (mall : mg "all" = none) (mdict : mg "dict" = none) (N : Df P w K mg base 1 g gd "is_name" ["value"] (spName K)) : FnOk P w K mg base CX0 2 f fd ["value"] (spAreSrc C) := by
  refine F.ok scAreSources (fun vs H Q E h => ?_) (fun cdv A outer s H vs Q E hr h => ?_)
  · obtain ⟨d, kvs, rfl, _⟩ := h
    rfl
  obtain ⟨d, kvs, rfl, T, hn, q⟩ := h
  refine ⟨_, pss_one (ps_ret (pe_and (pe_callB call_isi (by rfl) misi (by decide +kernel) (pa_cons (pv 0) (pa_cons (pe_bltn (v := .ty "dict") (by rfl) mdict (by decide +kernel) rfl) pa_nil))) (pe_one (pe_callB (cr_all rfl) (by rfl) mall (by decide +kernel) (pa_cons
      (pe_lock (pe_lc (own := [("key", 1)]) (g := gName 1) rfl scAreSources.nd (pi_keys (pv 0)) (blkOk_by (own := [("key", 1)]) (N := ["value", "key"]) (sc := defScope sAreSources) (by decide +kernel))
        (fun _ _ _ _ _ => pg_name (i := 1) scAreSources.nd rfl (Or.inl rfl) (Or.inr rfl)) (fun _ _ _ _ _ => pts_nil)
        (fun _ _ _ _ _ => pe_and (pe_call N.ok (hr.mono (by decide)) (by rfl) N.m N.kp N.b .nil pass0 (pa_cons (pv 1) pa_nil)) (pe_one (pe_callB (call_isS IN) (by rfl) misi (by decide +kernel) (pa_cons (pe_dget (hu_of hr) (pv 0) (pv 1) (fun _ _ => rfl)) (pa_cons (C8.pe_gc (v := .ref C) (by rfl) ⟨_, mC, rfl⟩) pa_nil))))))) pa_nil))))), ?_⟩
  refine ⟨_, rfl, _, _, _, _, true, rfl, .ty _, .base (.dK T.at_), kit_ty (by decide +kernel), true, rfl, iteT ?_⟩
  refine ⟨d, _, T.at_, trivial, fun od => ?_⟩
  refine ⟨.ref d, rfl, d, od, rfl, .inl ⟨kvs, upd_same, fun m hm => ?_⟩⟩
  have hm' : H m = none := by
    by_cases e : m = d
    · rw [e, upd_same] at hm
      cases hm
    · rw [upd_ne e] at hm
      exact hm
  refine lc_it walk_keys (fun i H2 => Same (upd H d (.frz od (.dK kvs))) H2 ∧ H2 m = some (.lst (List.replicate i (.bl true)))) ⟨same_upd hm _, upd_same⟩ (fun i H2 _ h => h.1 _ _ upd_same) ?_ ?_
  · rintro i x H2 H3 hi ⟨s2, h2⟩ ⟨rfl, k, v, hk, rfl⟩
    have hmem := List.mem_of_getElem? hk
    obtain ⟨z, ez, nz⟩ := hn _ hmem
    obtain ⟨a, u', v', ea, sa⟩ := T.ser _ hmem
    have ez : k = Sum.inr z := ez
    have ea : v = .ref a := ea
    subst ez
    subst ea
    have z4 := nz.l4
    refine ⟨rfl, _, rfl, _, rfl, .inl ⟨z, rfl, by omega, fun H4 s4 => ⟨_, rfl, ?_⟩⟩⟩
    rw [nz.b]
    obtain ⟨dx, x1, y1, o1, sa', _⟩ := (sa.lock (od := od) T.at_).same (s2.trans s4)
    have hd4 := s4 _ _ (s2 _ _ upd_same)
    refine iteT ⟨_, rfl, _, rfl, d, _, rfl, .inl ⟨kvs, Sum.inr z, .inr ⟨_, hd4⟩, rfl, (val_nodup T.nd _ hmem).symm⟩, .inl ⟨a, dx, _, rfl, sa', ?_⟩⟩
    refine ⟨_, s4 _ _ h2, small1000 (by rw [List.length_replicate]; have := T.l; omega), fun b o e => ?_, ?_⟩
    · rw [upd_ne (ne_of_none e hm)]
      exact s4 _ _ (s2 _ _ e)
    · rw [upd_same, List.replicate_succ']
  · rintro H2 ⟨s2, h2⟩
    refine ⟨s2 _ _ upd_same, m, List.replicate kvs.length true, rfl, ?_, ?_⟩
    · have nm : m ≠ d := fun e => by rw [e, upd_same] at hm; cases hm
      exact SqL.of (by rw [upd_ne nm, h2, List.map_replicate])
    · rw [show (List.replicate kvs.length true).all id = true by rw [List.all_eq_true]; intro b hb; rw [(List.mem_replicate.mp hb).2]; rfl]
      exact q _ (unlock_same T.at_ s2)
def spAreBox (C : Addr) : Sp := fun vs H Q _ => ∃ (d : Addr) (kvs : List (Key × V)), vs = [.ref d] ∧ STab H C d kvs ∧ (∀ p ∈ kvs, ∃ i : Int, p.1 = Sum.inl i ∧ 0 ≤ i) ∧ ∀ H', Same H H' → Q (.bl true) H'
theorem scAreBoxes : FnScope ["value", "key"] ["value"] (defScope sAreBoxes) := ⟨rfl, rfl, rfl, by decide +kernel, rfl, by decide +kernel, by decide +kernel⟩
theorem ok_areBoxes {f g C : Addr} {fd gd : FuncData} (F : Fun K "are_boxes" "are_boxes" sAreBoxes f fd) (IN : IsS K C) (mC : mg "Series" = some (.ref C)) (misi : mg "isinstance" = none) (mall : mg "all" = none) (mdict : mg "dict" = none) (N : Df P w K mg base 1 g gd "is_integer" ["value"] (spInteger K)) : FnOk P w K mg base CX0 2 f fd ["value"] (spAreBox C) := by
  refine F.ok scAreBoxes (fun vs H Q E h => ?_) (fun cdv A outer s H vs Q E hr h => ?_)
  · obtain ⟨d, kvs, rfl, _⟩ := h
    rfl
  obtain ⟨d, kvs, rfl, T, hn, q⟩ := h
  refine ⟨_, pss_cons (ps_if (pt_not (pt_val (pe_callB call_isi (by rfl) misi (by decide +kernel) (pa_cons (pv 0) (pa_cons (pe_bltn (v := .ty "dict") (by rfl) mdict (by decide +kernel) rfl) pa_nil))))) (pss_one (ps_ret pe_bl)) pss_nil)
    (pss_one (ps_ret (pe_callB (cr_all rfl) (by rfl) mall (by decide +kernel) (pa_cons
      (pe_lock (pe_lc (own := [("key", 1)]) (g := gName 1) rfl scAreBoxes.nd (pi_keys (pv 0)) (blkOk_by (own := [("key", 1)]) (N := ["value", "key"]) (sc := defScope sAreBoxes) (by decide +kernel))
        (fun _ _ _ _ _ => pg_name (i := 1) scAreBoxes.nd rfl (Or.inl rfl) (Or.inr rfl)) (fun _ _ _ _ _ => pts_nil)
        (fun _ _ _ _ _ => pe_and (pe_call N.ok (hr.mono (by decide)) (by rfl) N.m N.kp N.b .nil pass0 (pa_cons (pv 1) pa_nil)) (pe_and (pe_cmpR op_ge (pv 1) pe_int (nomark _)) (pe_one (pe_callB (call_isS IN) (by rfl) misi (by decide +kernel) (pa_cons (pe_dget (hu_of hr) (pv 0) (pv 1) (fun _ _ => rfl)) (pa_cons (C8.pe_gc (v := .ref C) (by rfl) ⟨_, mC, rfl⟩) pa_nil)))))))) pa_nil)))), ?_⟩
  refine ⟨_, rfl, _, _, _, _, true, rfl, .ty _, .base (.dK T.at_), kit_ty (by decide +kernel), _, rfl, iteF ?_⟩
  refine ⟨d, _, T.at_, trivial, fun od => ?_⟩
  refine ⟨.ref d, rfl, d, od, rfl, .inl ⟨kvs, upd_same, fun m hm => ?_⟩⟩
  refine lc_it walk_keys (fun i H2 => Same (upd H d (.frz od (.dK kvs))) H2 ∧ H2 m = some (.lst (List.replicate i (.bl true)))) ⟨same_upd hm _, upd_same⟩ (fun i H2 _ h => h.1 _ _ upd_same) ?_ ?_
  · rintro i x H2 H3 hi ⟨s2, h2⟩ ⟨rfl, k, v, hk, rfl⟩
    have hmem := List.mem_of_getElem? hk
    obtain ⟨z, ez, nz⟩ := hn _ hmem
    obtain ⟨a, u', v', ea, sa⟩ := T.ser _ hmem
    have ez : k = Sum.inl z := ez
    have ea : v = .ref a := ea
    subst ez
    subst ea
    refine ⟨rfl, _, rfl, _, "int", true, false, rfl, .base (.int _), by decide +kernel, by decide +kernel, ?_⟩
    refine ⟨_, rfl, iteT ?_⟩
    obtain ⟨dx, x1, y1, o1, sa', _⟩ := (sa.lock (od := od) T.at_).same s2
    have hd4 := s2 _ _ upd_same
    refine ⟨_, rfl, z, 0, rfl, rfl, _, rfl, ?_⟩
    rw [decide_eq_true nz]
    refine iteT ⟨_, rfl, _, rfl, d, _, rfl, .inl ⟨kvs, Sum.inl z, .inr ⟨_, hd4⟩, rfl, (val_nodup T.nd _ hmem).symm⟩, .inl ⟨a, dx, _, rfl, sa', ?_⟩⟩
    refine ⟨_, h2, small1000 (by rw [List.length_replicate]; have := T.l; omega), fun b o e => ?_, ?_⟩
    · rw [upd_ne (ne_of_none e hm)]
      exact s2 _ _ e
    · rw [upd_same, List.replicate_succ']
  · rintro H2 ⟨s2, h2⟩
    refine ⟨s2 _ _ upd_same, m, List.replicate kvs.length true, rfl, ?_, ?_⟩
    · have nm : m ≠ d := fun e => by rw [e, upd_same] at hm; cases hm
      exact SqL.of (by rw [upd_ne nm, h2, List.map_replicate])
    · rw [show (List.replicate kvs.length true).all id = true by rw [List.all_eq_true]; intro b hb; rw [(List.mem_replicate.mp hb).2]; rfl]
      exact q _ (unlock_same T.at_ s2)
/-- whether a value is a series that is not zero, by what stands there -/
def Keep (H : Hp) (C : Addr) (kvs : List (Key × V)) (keep : Key × V → Bool) : Prop := ∀ p ∈ kvs, ∃ a u v, p.2 = .ref a ∧ SerAt H C a u v ∧ (keep p = true → ∃ i, SerM.co u i ≠ 0) ∧ (keep p = false → ∀ i, SerM.co u i = 0)
theorem filter_snoc {kvs : List (Key × V)} {keep : Key × V → Bool} {i : Nat} {p : Key × V} (h : kvs[i]? = some p) : (kvs.take (i + 1)).filter keep = (kvs.take i).filter keep ++ (if keep p = true then [p] else []) := by
  rw [List.take_add_one, h, List.filter_append]
  congr 1
  show (Option.toList (some p)).filter keep = _
  show [p].filter keep = _
  by_cases k : keep p = true
  · rw [if_pos k, List.filter_cons_of_pos k]; rfl
  · rw [if_neg k, List.filter_cons_of_neg k]; rfl
theorem filter_none {kvs : List (Key × V)} {keep : Key × V → Bool} (nd : (kvs.map (·.1)).Nodup) {i : Nat} {p : Key × V} (h : kvs[i]? = some p) : valV ((kvs.take i).filter keep) p.1 = none := by
  cases e : valV ((kvs.take i).filter keep) p.1 with
  | none => rfl
  | some v =>
    obtain ⟨q, hq, eq⟩ := List.mem_map.mp (valV_in e)
    obtain ⟨j, hj⟩ := List.getElem?_of_mem (List.mem_filter.mp hq).1
    rw [List.getElem?_take] at hj
    split at hj
    · rename_i hji
      have hi := (List.getElem?_eq_some_iff.mp h).1
      have hj' := (List.getElem?_eq_some_iff.mp hj)
      have hi' := (List.getElem?_eq_some_iff.mp h)
      have := (List.pairwise_iff_getElem.mp nd) j i (by rw [List.length_map]; omega) (by rw [List.length_map]; exact hi) hji
      rw [List.getElem_map, List.getElem_map, hj'.2, hi'.2] at this
      exact absurd eq this
    · cases hj
def spNotZero (C : Addr) : Sp := fun vs H Q _ => ∃ (d : Addr) (kvs : List (Key × V)) (keep : Key × V → Bool), vs = [.ref d] ∧ STab H C d kvs ∧ Keep H C kvs keep ∧ ∀ d' H', Same H H' → H d' = none → H' d' = some (.dK (kvs.filter keep)) → Q (.ref d') H'
/-- an attribute within a comprehension -/
theorem pe_fldK {X : Cx} {K : PySem.W.Frag} {e : Expr} {ta : TE} {f : Str} {pos : Pos} (h : X.K = K) (he : PE X e ta) (hb : attributeBase e f X.env (eval e X.env) = eval e X.env) : PE X (.Attribute e f pos) (tFld K ta f) := h ▸ pe_fld he hb
theorem scNotZero : FnScope ["table", "key"] ["table"] (defScope sNotZero) := ⟨rfl, rfl, rfl, by decide +kernel, rfl, by decide +kernel, by decide +kernel⟩
theorem ok_notZero {f C : Addr} {fd : FuncData} (F : Fun K "not_zero" "not_zero" sNotZero f fd) (C' : SerC K C) : FnOk P w K mg base CX0 1 f fd ["table"] (spNotZero C) := by
  refine F.ok scNotZero (fun vs H Q E h => ?_) (fun cdv A outer s H vs Q E hr h => ?_)
  · obtain ⟨d, kvs, keep, rfl, _⟩ := h
    rfl
  obtain ⟨d, kvs, keep, rfl, T, hk, q⟩ := h
  refine ⟨_, pss_one (ps_ret (pe_lock (by exact pe_dc (own := [("key", 1)]) (g := (gName 1)) rfl scNotZero.nd (pi_keys (pv 0)) (blkOk_by (own := [("key", 1)]) (N := ["table", "key"]) (sc := defScope sNotZero) (by decide +kernel)) (fun _ _ _ _ _ => (pg_name (i := 1) scNotZero.nd rfl (Or.inl rfl) (Or.inr rfl))) (fun _ _ _ _ _ => pts_one (pt_cmpR op_notN (pe_fldK (K := K) rfl (pe_dget (hu_of hr) (pv 0) (pv 1) (fun _ _ => rfl)) rfl) pe_non (nomark _))) (fun _ _ _ _ _ => pv 1) (fun _ _ _ _ _ => pe_dget (hu_of hr) (pv 0) (pv 1) (fun _ _ => rfl))))), ?_⟩
  refine ⟨d, _, T.at_, trivial, fun od => ?_⟩
  refine ⟨.ref d, rfl, d, od, rfl, .inl ⟨kvs, upd_same, fun m hm => ?_⟩⟩
  have nm : m ≠ d := fun e => by rw [e, upd_same] at hm; cases hm
  refine dc_it walk_keys (fun i H2 => Same (upd H d (.frz od (.dK kvs))) H2 ∧ H2 m = some (.dK ((kvs.take i).filter keep))) ⟨same_upd hm _, upd_same⟩ (fun i H2 _ h => h.1 _ _ upd_same) ?_ ?_
  · rintro i x H2 H3 hi ⟨s2, h2⟩ ⟨rfl, k, v, hkv, rfl⟩
    have hmem := List.mem_of_getElem? hkv
    obtain ⟨a, u', v', ea, sa, k1, k0⟩ := hk _ hmem
    have ea : v = .ref a := ea
    subst ea
    obtain ⟨dx, x1, y1, o1, ha, _, _, ho⟩ := (sa.lock (od := od) T.at_).same s2
    have hd2 := s2 _ _ upd_same
    have get : DGet H3 d (kV k) (some (.ref a)) := .inl ⟨kvs, k, .inr ⟨_, hd2⟩, rfl, (val_nodup T.nd _ hmem).symm⟩
    refine ⟨rfl, _, rfl, _, rfl, d, _, rfl, get, a, C, dx, _, _, rfl, ha, C'.cl, C'.o, rfl, ?_⟩
    have e1 := filter_snoc (keep := keep) hkv
    cases kk : keep (k, .ref a) with
    | true =>
      rw [kk, if_pos rfl] at e1
      obtain ⟨i0, h0⟩ := k1 kk
      have no : ¬ o1 = .non := by
        rcases ho with ⟨kn, _, _, _, e⟩ | ⟨hz, _⟩
        · rw [e]; exact fun z => by cases z
        · exact absurd (hz i0) h0
      refine ⟨rfl, _, rfl, ?_⟩
      rw [decide_eq_false no]
      refine iteT ⟨_, rfl, _, rfl, _, rfl, d, _, rfl, get, _, k, rfl, h2, small1000 ?_, fun b o e => ?_, ?_⟩
      · have := List.length_filter_le keep (kvs.take i)
        have := T.l
        rw [List.length_take] at *
        omega
      · rw [upd_ne (ne_of_none e hm)]
        exact s2 _ _ e
      · rw [upd_same, e1, putK_new _ (filter_none T.nd hkv)]
    | false =>
      rw [kk, if_neg (by decide), List.append_nil] at e1
      have no : o1 = .non := by
        rcases ho with ⟨kn, _, hc, _, _⟩ | ⟨_, e⟩
        · exact absurd (k0 kk kn) hc
        · exact e
      subst no
      refine ⟨rfl, _, rfl, ?_⟩
      rw [decide_eq_true rfl]
      refine iteF ⟨s2, ?_⟩
      rw [e1]
      exact h2
  · rintro H2 ⟨s2, h2⟩
    rw [List.take_length] at h2
    have hmH : H m = none := by rw [upd_ne nm] at hm; exact hm
    exact ⟨s2 _ _ upd_same, q m _ (unlock_same T.at_ s2) hmH (by rw [upd_ne nm]; exact h2)⟩
/-! ### what is put into a dict -/
theorem put_mem {kvs : List (Key × V)} {k : Key} {v : V} {p : Key × V} (h : p ∈ putK kvs k v) : p = (k, v) ∨ (p ∈ kvs ∧ ¬ p.1 = k) := by
  unfold putK at h
  split at h
  · obtain ⟨q, hq, e⟩ := List.mem_map.mp h
    by_cases n : q.1 = k
    · rw [if_pos n] at e
      subst n
      exact .inl e.symm
    · rw [if_neg n] at e
      subst e
      exact .inr ⟨hq, n⟩
  · rename_i hn
    rcases List.mem_append.mp h with h | h
    · refine .inr ⟨h, fun e => hn ?_⟩
      rw [List.any_eq_true]
      exact ⟨p, h, decide_eq_true e⟩
    · exact .inl (List.mem_singleton.mp h)
theorem put_keys {kvs : List (Key × V)} {k : Key} {v : V} : (putK kvs k v).map (·.1) = if (kvs.any fun kv => decide (kv.1 = k)) = true then kvs.map (·.1) else kvs.map (·.1) ++ [k] := by
  unfold putK
  split
  · rw [List.map_map]
    refine List.map_congr_left fun q _ => ?_
    show (if q.1 = k then (q.1, v) else q).1 = q.1
    split <;> rfl
  · rw [List.map_append]
    rfl
theorem put_in {kvs : List (Key × V)} {k j : Key} {v : V} : j ∈ (putK kvs k v).map (·.1) ↔ j ∈ kvs.map (·.1) ∨ j = k := by
  rw [put_keys]
  split
  · rename_i h
    obtain ⟨q, hq, e⟩ := List.any_eq_true.mp h
    have e := of_decide_eq_true e
    exact ⟨.inl, fun h => h.elim id fun z => by rw [z, ← e]; exact List.mem_map.mpr ⟨q, hq, rfl⟩⟩
  · rw [List.mem_append, List.mem_singleton]
theorem put_nd {kvs : List (Key × V)} {k : Key} {v : V} (h : (kvs.map (·.1)).Nodup) : ((putK kvs k v).map (·.1)).Nodup := by
  rw [put_keys]
  split
  · exact h
  · rename_i hn
    refine List.nodup_append.mpr ⟨h, List.nodup_cons.mpr ⟨List.not_mem_nil, List.nodup_nil⟩, fun a ha b hb e => ?_⟩
    have hb := List.mem_singleton.mp hb
    obtain ⟨q, hq, eq⟩ := List.mem_map.mp ha
    exact hn (List.any_eq_true.mpr ⟨q, hq, decide_eq_true (eq.trans (e.trans hb))⟩)
end
end Un
namespace Un
open PySem L2 TL
section
variable {P : Program} {w : World} {K : PySem.W.Frag} {mg : Str → Option Value} {base : Heap}
/-! ### sums of tables -/
abbrev KeysIn (kvs : List (Key × V)) (k : Key) : Prop := k ∈ kvs.map (·.1)
abbrev Vf := Key → SerM.Po × SerM.Po
def Zp (p : SerM.Po × SerM.Po) : Prop := ∀ x, SerM.ev p.1 x = 0
theorem len_sub {l U : List Key} (nd : l.Nodup) (h : ∀ k ∈ l, k ∈ U) : l.length ≤ U.length := by
  induction l generalizing U with
  | nil => exact Nat.zero_le _
  | cons a r ih =>
    obtain ⟨n1, n2⟩ := List.nodup_cons.mp nd
    have ha := h a List.mem_cons_self
    have := ih (U := U.filter fun k => decide (k ≠ a)) n2 fun k hk => by
      have hne : k ≠ a := fun e => n1 (e ▸ hk)
      exact List.mem_filter.mpr ⟨h k (List.mem_cons_of_mem _ hk), decide_eq_true hne⟩
    have h2 := (List.length_filter_lt_length_iff_exists (p := fun k => decide (k ≠ a))).mpr ⟨a, ha, by simp⟩
    rw [List.length_cons]
    omega
structure TVal (H : Hp) (C d : Addr) (U : List Key) (kvs : List (Key × V)) (val : Vf) : Prop where
  at_ : H d = some (.dK kvs)
  ser : ∀ p ∈ kvs, ∃ a, p.2 = .ref a ∧ ValU H C a (val p.1).1 (val p.1).2
  nd : (kvs.map (·.1)).Nodup
  sub : ∀ p ∈ kvs, p.1 ∈ U
  u : U.length ≤ 40
theorem TVal.l {H : Hp} {C d : Addr} {U : List Key} {kvs : List (Key × V)} {val : Vf} (h : TVal H C d U kvs val) : kvs.length ≤ 40 := by
  have := len_sub h.nd fun k hk => by
    obtain ⟨p, hp, e⟩ := List.mem_map.mp hk
    rw [← e]; exact h.sub p hp
  rw [List.length_map] at this
  exact Nat.le_trans this h.u
theorem TVal.same {H H' : Hp} {C d : Addr} {U : List Key} {kvs : List (Key × V)} {val : Vf} (h : TVal H C d U kvs val) (s : Same H H') : TVal H' C d U kvs val :=
  ⟨s _ _ h.at_, fun p hp => by
    obtain ⟨a, e, h1⟩ := h.ser p hp
    exact ⟨a, e, h1.same s⟩, h.nd, h.sub, h.u⟩
theorem ValU.at {H : Hp} {C a : Addr} {P Q : SerM.Po} (h : ValU H C a P Q) : ∃ u v, SerAt H C a u v := by
  obtain ⟨F, u, v, S, R⟩ := h
  exact ⟨u, v, S⟩
theorem TVal.st {H : Hp} {C d : Addr} {U : List Key} {kvs : List (Key × V)} {val : Vf} (h : TVal H C d U kvs val) : STab H C d kvs :=
  ⟨h.at_, fun p hp => by
    obtain ⟨a, e, h1⟩ := h.ser p hp
    obtain ⟨u, v, S⟩ := h1.at
    exact ⟨a, u, v, e, S⟩, h.nd, by have := h.l; omega⟩
/-- what is no series and no list -/
def NoSer (o : HO) : Prop := (∀ C dx x y z, o ≠ .ins C dx (serFs x y z)) ∧ ∀ xs, o ≠ .lst xs
theorem noSer_dK {kvs : List (Key × V)} : NoSer (.dK kvs) := ⟨fun _ _ _ _ _ z => (by cases z), fun _ z => by cases z⟩
theorem SerAt.up {H : Hp} {C a d : Addr} {u v : SerM.Po} {o o0 : HO} (h : SerAt H C a u v) (hd : H d = some o0) (no : NoSer o0) : SerAt (upd H d o) C a u v := by
  obtain ⟨dx, x, y, z, h1, h2, h3, h4⟩ := h
  exact ⟨dx, x, y, z, by rw [upd_ne (ne_of h1 hd fun e => no.1 _ _ _ _ _ e.symm)]; exact h1, by rw [upd_ne (ne_of h2 hd fun e => no.2 _ e.symm)]; exact h2, by rw [upd_ne (ne_of h3 hd fun e => no.2 _ e.symm)]; exact h3, h4⟩
theorem ValU.up {H : Hp} {C a d : Addr} {P Q : SerM.Po} {o o0 : HO} (h : ValU H C a P Q) (hd : H d = some o0) (no : NoSer o0) : ValU (upd H d o) C a P Q := by
  obtain ⟨F, u, v, S, R⟩ := h
  exact ⟨F, u, v, S.up hd no, R⟩
theorem TVal.up {H : Hp} {C d a : Addr} {U : List Key} {kvs : List (Key × V)} {val : Vf} {o o0 : HO} (h : TVal H C d U kvs val) (ha : H a = some o0) (no : NoSer o0) (n : a ≠ d) : TVal (upd H a o) C d U kvs val :=
  ⟨by rw [upd_ne n.symm]; exact h.at_, fun p hp => by
    obtain ⟨b, e, h1⟩ := h.ser p hp
    exact ⟨b, e, h1.up ha no⟩, h.nd, h.sub, h.u⟩
theorem ValU.ins {H : Hp} {C a : Addr} {P Q : SerM.Po} (h : ValU H C a P Q) : ∃ dx fs, H a = some (.ins C dx fs) := by
  obtain ⟨F, u, v, ⟨dx, x, y, z, h1, _⟩, R⟩ := h
  exact ⟨dx, _, h1⟩
/-- the same series by another fraction -/
theorem ValU.eqv {H : Hp} {C a : Addr} {P Q P' Q' : SerM.Po} (h : ValU H C a P Q) (F' : Frac P' Q' uni) (e : ∀ x, SerM.ev P x * SerM.ev Q' x = SerM.ev P' x * SerM.ev Q x) : ValU H C a P' Q' := by
  obtain ⟨F, u, v, S, R⟩ := h
  exact ⟨F', u, v, S, SerM.red_of F'.q1 F.q1 e R⟩
theorem cancel1' {Q1 p q P' Q' : SerM.Po} (h1 : SerM.ev Q1 0 = 1) (h : ∀ x, (SerM.ev p x * SerM.ev Q' x) * SerM.ev Q1 x = (SerM.ev P' x * SerM.ev q x) * SerM.ev Q1 x) : ∀ x, SerM.ev p x * SerM.ev Q' x = SerM.ev P' x * SerM.ev q x :=
  cancel2 h1 h1 fun x => by have := h x; grind
def SumOk (a b c : SerM.Po × SerM.Po) : Prop := Frac a.1 a.2 uni ∧ Frac b.1 b.2 uni ∧ Frac c.1 c.2 uni ∧ AddR a.1 a.2 b.1 b.2 c.1 c.2
theorem SumOk.l {a b c : SerM.Po × SerM.Po} (h : SumOk a b c) (z : Zp b) : ∀ x, SerM.ev a.1 x * SerM.ev c.2 x = SerM.ev c.1 x * SerM.ev a.2 x := by
  obtain ⟨f1, f2, f3, h⟩ := h
  exact cancel1' f2.q1 fun x => by
    have := h x
    rw [z x] at this
    grind
theorem SumOk.r {a b c : SerM.Po × SerM.Po} (h : SumOk a b c) (z : Zp a) : ∀ x, SerM.ev b.1 x * SerM.ev c.2 x = SerM.ev c.1 x * SerM.ev b.2 x := by
  obtain ⟨f1, f2, f3, h⟩ := h
  exact cancel1' f1.q1 fun x => by
    have := h x
    rw [z x] at this
    grind
theorem valV_mem {kvs : List (Key × V)} {k : Key} {v : V} (h : valV kvs k = some v) : (k, v) ∈ kvs := by
  unfold valV at h
  obtain ⟨p, hp, rfl⟩ := Option.map_eq_some_iff.mp h
  have h1 := List.find?_some hp
  have h2 := List.mem_of_find?_eq_some hp
  have h1 : p.1 = k := of_decide_eq_true h1
  rw [← h1]
  exact h2
theorem valV_none {kvs : List (Key × V)} {k : Key} (h : valV kvs k = none) : ¬ KeysIn kvs k := fun hk => by
  obtain ⟨p, hp, e⟩ := List.mem_map.mp hk
  unfold valV at h
  have := List.find?_eq_none.mp (Option.map_eq_none_iff.mp h) p hp
  exact this (decide_eq_true e)
end
end Un
namespace Un
open PySem L2 TL
section
variable {P : Program} {w : World} {K : PySem.W.Frag} {mg : Str → Option Value} {base : Heap}
/-! ### the class Form -/
abbrev sForm : Stmt := top 46
abbrev sF_init : Stmt := inClass sForm 0
structure FrmC (K : PySem.W.Frag) (CF : Addr) : Prop where
  cl : Cls K CF
  s : NoAttr K CF "_sources"
  b : NoAttr K CF "_boxes"
  o : NoAttr K CF "order"
abbrev frmFs (x y : Addr) (z : V) : List (Str × V) := [("_sources", .ref x), ("_boxes", .ref y), ("order", z)]
def SrcK (k : Key) : Prop := ∃ z : Str, k = Sum.inr z
def BoxK (k : Key) : Prop := ∃ i : Int, k = Sum.inl i
def SrcOk (k : Key) : Prop := ∃ z : Str, k = Sum.inr z ∧ IsNm z
def BoxOk (k : Key) : Prop := ∃ i : Int, k = Sum.inl i ∧ 0 ≤ i
/-- the index of the first coefficient that is not zero -/
def ordN (p : SerM.Po × SerM.Po) : Nat := p.1.findIdx fun z => decide (z ≠ 0)
theorem zp_co {p : SerM.Po × SerM.Po} : Zp p ↔ ∀ i, SerM.co p.1 i = 0 := by
  constructor
  · intro h i
    have := SerM.co_of_ev (p := p.1) (q := []) 0 (fun x _ => by rw [h x]; rfl) i
    rw [this, SerM.co_nil]
  · exact fun h => SerM.zero_ev h
theorem nz_ex {p : SerM.Po × SerM.Po} (h : ¬ Zp p) : ∃ i, SerM.co p.1 i ≠ 0 := Classical.byContradiction fun n => h (zp_co.mpr fun i => Classical.byContradiction fun z => n ⟨i, z⟩)
theorem ordN_is {p : SerM.Po × SerM.Po} (h : ¬ Zp p) : ordN p < p.1.length ∧ SerM.co p.1 (ordN p) ≠ 0 ∧ ∀ i, i < ordN p → SerM.co p.1 i = 0 := by
  obtain ⟨i, hi⟩ := nz_ex h
  have hl : i < p.1.length := Classical.byContradiction fun n => hi (SerM.co_len (by omega))
  have hlt : ordN p < p.1.length := by
    refine List.findIdx_lt_length_of_exists ⟨p.1[i], List.getElem_mem hl, decide_eq_true ?_⟩
    unfold SerM.co at hi
    rw [List.getD_eq_getElem?_getD, List.getElem?_eq_getElem hl] at hi
    exact hi
  refine ⟨hlt, ?_, fun j hj => ?_⟩
  · have h1 := List.findIdx_getElem (xs := p.1) (p := fun z => decide (z ≠ 0)) (w := hlt)
    have h1 := of_decide_eq_true h1
    unfold SerM.co
    rw [List.getD_eq_getElem?_getD, List.getElem?_eq_getElem hlt]
    exact h1
  · have h1 := List.not_of_lt_findIdx (xs := p.1) (p := fun z => decide (z ≠ 0)) hj
    have h1 : p.1[j] = 0 := by simpa using h1
    unfold SerM.co
    rw [List.getD_eq_getElem?_getD, List.getElem?_eq_getElem (by omega)]
    exact h1
theorem ordN_v {p : SerM.Po × SerM.Po} (h : ¬ Zp p) : OrdV p.1 (.int (ordN p : Nat)) := by
  obtain ⟨h1, h2, h3⟩ := ordN_is h
  exact .inl ⟨_, h1, h2, h3, rfl⟩
/-- the order of a series that stands -/
theorem ord_of {u v : SerM.Po} {z : V} {p : SerM.Po × SerM.Po} (F : Frac p.1 p.2 uni) (R : SerM.Red p.1 p.2 u v) (h : ¬ Zp p) (hz : OrdV u z) : z = .int (ordN p : Nat) := ord_eq F.q1 R.v1 R.eq hz (ordN_v h)
theorem red_zero {u v : SerM.Po} {p : SerM.Po × SerM.Po} (F : Frac p.1 p.2 uni) (R : SerM.Red p.1 p.2 u v) : Zp p ↔ ∀ i, SerM.co u i = 0 := by
  rw [zp_co]
  constructor
  · intro h i
    exact low_zero F.q1 R.eq (k := i + 1) (fun j _ => h j) i (by omega)
  · intro h i
    exact low_zero R.v1 (fun x => (R.eq x).symm) (k := i + 1) (fun j _ => h j) i (by omega)
def OrdF (k1 k2 : List (Key × V)) (val : Vf) (o : V) : Prop := (k1 = [] ∧ k2 = [] ∧ o = .non) ∨ ∃ m : Nat, o = .int m ∧ (∃ p ∈ k1 ++ k2, ordN (val p.1) = m) ∧ ∀ p ∈ k1 ++ k2, m ≤ ordN (val p.1)
structure FormR (H : Hp) (C CF a dx d1 d2 : Addr) (o : V) (U : List Key) (k1 k2 : List (Key × V)) (val : Vf) : Prop where
  ha : H a = some (.ins CF dx (frmFs d1 d2 o))
  t1 : TVal H C d1 U k1 val
  t2 : TVal H C d2 U k2 val
  n1 : ∀ p ∈ k1, SrcOk p.1
  n2 : ∀ p ∈ k2, BoxOk p.1
  nz1 : ∀ p ∈ k1, ¬ Zp (val p.1)
  nz2 : ∀ p ∈ k2, ¬ Zp (val p.1)
  z1 : ∀ k, SrcK k → ¬ KeysIn k1 k → Zp (val k)
  z2 : ∀ k, BoxK k → ¬ KeysIn k2 k → Zp (val k)
  fr : ∀ k, Frac (val k).1 (val k).2 uni
  ord : OrdF k1 k2 val o
theorem FormR.same {H H' : Hp} {C CF a dx d1 d2 : Addr} {o : V} {U : List Key} {k1 k2 : List (Key × V)} {val : Vf} (h : FormR H C CF a dx d1 d2 o U k1 k2 val) (s : Same H H') : FormR H' C CF a dx d1 d2 o U k1 k2 val :=
  ⟨s _ _ h.ha, h.t1.same s, h.t2.same s, h.n1, h.n2, h.nz1, h.nz2, h.z1, h.z2, h.fr, h.ord⟩
/-- the form with these values stands at a -/
def FormV (H : Hp) (C CF a : Addr) (U : List Key) (val : Vf) : Prop := ∃ dx d1 d2 o k1 k2, FormR H C CF a dx d1 d2 o U k1 k2 val
theorem FormV.same {H H' : Hp} {C CF a : Addr} {U : List Key} {val : Vf} (h : FormV H C CF a U val) (s : Same H H') : FormV H' C CF a U val := by
  obtain ⟨dx, d1, d2, o, k1, k2, R⟩ := h
  exact ⟨dx, d1, d2, o, k1, k2, R.same s⟩
/-- .. and its dicts are new -/
def FormN (H H' : Hp) (C CF a : Addr) (U : List Key) (val : Vf) : Prop := ∃ dx d1 d2 o k1 k2, FormR H' C CF a dx d1 d2 o U k1 k2 val ∧ H d1 = none ∧ H d2 = none
theorem FormN.v {H H' : Hp} {C CF a : Addr} {U : List Key} {val : Vf} (h : FormN H H' C CF a U val) : FormV H' C CF a U val := by
  obtain ⟨dx, d1, d2, o, k1, k2, R, _⟩ := h
  exact ⟨dx, d1, d2, o, k1, k2, R⟩
theorem FormN.old {H H2 H' : Hp} {C CF a : Addr} {U : List Key} {val : Vf} (h : FormN H2 H' C CF a U val) (s : Same H H2) : FormN H H' C CF a U val := by
  obtain ⟨dx, d1, d2, o, k1, k2, R, n1, n2⟩ := h
  exact ⟨dx, d1, d2, o, k1, k2, R, s.free n1, s.free n2⟩
/-- what a form is made of -/
def FArg (H : Hp) (C : Addr) (U : List Key) (x : V) (ok : Key → Prop) (kvs : List (Key × V)) (val : Vf) : Prop := (x = .non ∧ kvs = []) ∨ ∃ d, x = .ref d ∧ TVal H C d U kvs val ∧ ∀ p ∈ kvs, ok p.1
theorem FArg.same {H H' : Hp} {C : Addr} {U : List Key} {x : V} {ok : Key → Prop} {kvs : List (Key × V)} {val : Vf} (h : FArg H C U x ok kvs val) (s : Same H H') : FArg H' C U x ok kvs val := by
  rcases h with h | ⟨d, h1, h2, h3⟩
  · exact .inl h
  · exact .inr ⟨d, h1, h2.same s, h3⟩
structure FormIn (H : Hp) (C : Addr) (x y : V) (U : List Key) (k1 k2 : List (Key × V)) (val : Vf) : Prop where
  a1 : FArg H C U x SrcOk k1 val
  a2 : FArg H C U y BoxOk k2 val
  z1 : ∀ k, SrcK k → ¬ KeysIn k1 k → Zp (val k)
  z2 : ∀ k, BoxK k → ¬ KeysIn k2 k → Zp (val k)
  fr : ∀ k, Frac (val k).1 (val k).2 uni
  u : U.length ≤ 40
theorem FormIn.same {H H' : Hp} {C : Addr} {x y : V} {U : List Key} {k1 k2 : List (Key × V)} {val : Vf} (h : FormIn H C x y U k1 k2 val) (s : Same H H') : FormIn H' C x y U k1 k2 val := ⟨h.a1.same s, h.a2.same s, h.z1, h.z2, h.fr, h.u⟩
def spFormI (C CF : Addr) : Sp := fun vs H Q _ => ∃ (a dx : Addr) (x y : V) (U : List Key) (k1 k2 : List (Key × V)) (val : Vf), vs = [.ref a, x, y] ∧ H a = some (.ins CF dx []) ∧ FormIn H C x y U k1 k2 val ∧
  ∀ H', (∀ b o, b ≠ a → H b = some o → H' b = some o) → FormN H H' C CF a U val → Q .non H'
/-- which entries stay -/
noncomputable def keepF (val : Vf) (p : Key × V) : Bool := @decide (¬ Zp (val p.1)) (Classical.propDecidable _)
theorem keepF_t {val : Vf} {p : Key × V} : keepF val p = true ↔ ¬ Zp (val p.1) := by
  unfold keepF
  exact @decide_eq_true_iff _ (Classical.propDecidable _)
theorem keepF_f {val : Vf} {p : Key × V} : keepF val p = false ↔ Zp (val p.1) := by
  unfold keepF
  rw [@decide_eq_false_iff_not _ (Classical.propDecidable _)]
  exact Classical.not_not
theorem TVal.keep {H : Hp} {C d : Addr} {U : List Key} {kvs : List (Key × V)} {val : Vf} (h : TVal H C d U kvs val) : Keep H C kvs (keepF val) := fun p hp => by
  obtain ⟨a, e, F, u, v, S, R⟩ := h.ser p hp
  refine ⟨a, u, v, e, S, fun k => ?_, fun k => ?_⟩
  · exact Classical.byContradiction fun n => (keepF_t.mp k) ((red_zero F R).mpr fun i => Classical.byContradiction fun z => n ⟨i, z⟩)
  · exact (red_zero F R).mp (keepF_f.mp k)
theorem TVal.filt {H H' : Hp} {C d d' : Addr} {U : List Key} {kvs : List (Key × V)} {val : Vf} (h : TVal H C d U kvs val) (s : Same H H') (e : H' d' = some (.dK (kvs.filter (keepF val)))) : TVal H' C d' U (kvs.filter (keepF val)) val :=
  ⟨e, fun p hp => by
    obtain ⟨a, e, h1⟩ := h.ser p (List.mem_filter.mp hp).1
    exact ⟨a, e, h1.same s⟩, List.Nodup.sublist (List.Sublist.map _ List.filter_sublist) h.nd, fun p hp => h.sub p (List.mem_filter.mp hp).1, h.u⟩
theorem filt_z {kvs : List (Key × V)} {val : Vf} {S : Key → Prop} (h : ∀ k, S k → ¬ KeysIn kvs k → Zp (val k)) : ∀ k, S k → ¬ KeysIn (kvs.filter (keepF val)) k → Zp (val k) := fun k hk hn => Classical.byContradiction fun z => by
  refine z (h k hk fun hi => hn ?_)
  obtain ⟨p, hp, rfl⟩ := List.mem_map.mp hi
  exact List.mem_map.mpr ⟨p, List.mem_filter.mpr ⟨hp, keepF_t.mpr z⟩, rfl⟩
theorem filt_nz {kvs : List (Key × V)} {val : Vf} : ∀ p ∈ kvs.filter (keepF val), ¬ Zp (val p.1) := fun p hp => keepF_t.mp (List.mem_filter.mp hp).2
/-- the orders of what stands in a table -/
def ords (kvs : List (Key × V)) (val : Vf) : List Int := kvs.map fun p => (ordN (val p.1) : Int)
theorem rd_ords {td : TE} {s0 s1 s2 s3 s4 s5 s6 : Option V} {H1 : Hp} {C d : Addr} {U : List Key} {kvs : List (Key × V)} {val : Vf} {Q1 : VK} (CS : SerC K C) (T : TVal H1 C d U kvs val) (nz : ∀ p ∈ kvs, ¬ Zp (val p.1))
    (htd : ∀ od R, R (.ref d) (upd H1 d (.frz od (.dK kvs))) → td [s0, s1, s2, s3, s4, s5, s6] (upd H1 d (.frz od (.dK kvs))) R) (q : ∀ m H2, Same H1 H2 → H1 m = none → H2 m = some (.lst ((ords kvs val).map V.int)) → Q1 (.ref m) H2) :
    tLockE (tLc (iVals td) (gName 6) tYes (tFld K (tVar 6) (Str.ofString "order")) [6]) [s0, s1, s2, s3, s4, s5, s6] H1 Q1 := by
  refine ⟨d, _, T.at_, trivial, fun od => ?_⟩
  refine htd od _ ?_
  refine ⟨d, od, kvs, rfl, upd_same, fun m hm => ?_⟩
  have nm : m ≠ d := fun e => by rw [e, upd_same] at hm; cases hm
  refine lc_it walk_values (fun i H2 => Same (upd H1 d (.frz od (.dK kvs))) H2 ∧ H2 m = some (.lst ((ords (kvs.take i) val).map V.int))) ⟨same_upd hm _, upd_same⟩ (fun i H2 _ h => h.1 _ _ upd_same) ?_ ?_
  · rintro i x H2 H3 hi ⟨s2, h2⟩ ⟨rfl, k, hkv⟩
    have hmem := List.mem_of_getElem? hkv
    obtain ⟨a', ea, F, u, v, S, R⟩ := T.ser _ hmem
    have ea : x = .ref a' := ea
    subst ea
    obtain ⟨dx', x', y', o', ha', _, _, ho⟩ := (S.up (o := .frz od (.dK kvs)) T.at_ noSer_dK).same s2
    have eo := ord_of F R (nz _ hmem) ho
    have := T.l
    refine ⟨rfl, _, rfl, a', C, dx', _, _, rfl, ha', CS.cl, CS.o, rfl, _, h2, small1000 ?_, fun b o e => ?_, ?_⟩
    · unfold ords
      rw [List.length_map, List.length_map, List.length_take]; omega
    · rw [upd_ne (ne_of_none e hm)]
      exact s2 _ _ e
    · rw [upd_same, eo]
      unfold ords
      rw [List.take_add_one, hkv, List.map_append, List.map_append]
      rfl
  · rintro H2 ⟨s2, h2⟩
    rw [List.take_length] at h2
    have hmH : H1 m = none := by rw [upd_ne nm] at hm; exact hm
    exact ⟨s2 _ _ upd_same, q m _ (unlock_same T.at_ s2) hmH (by rw [upd_ne nm]; exact h2)⟩
theorem ords_min {k1 k2 : List (Key × V)} {val : Vf} {m : Int} (h : m ∈ ords k1 val ++ ords k2 val) (hle : ∀ y ∈ ords k1 val ++ ords k2 val, m ≤ y) : OrdF k1 k2 val (.int m) := by
  have e : ords k1 val ++ ords k2 val = ords (k1 ++ k2) val := by unfold ords; rw [List.map_append]
  rw [e] at h hle
  obtain ⟨p, hp, rfl⟩ := List.mem_map.mp h
  refine .inr ⟨_, rfl, ⟨p, hp, rfl⟩, fun r hr => ?_⟩
  have := hle _ (List.mem_map.mpr ⟨r, hr, rfl⟩)
  omega
theorem scF_init : FnScope ["self", "sources", "boxes", "for_sources", "for_boxes", "orders", "series"] ["self", "sources", "boxes"] (defScope sF_init) := ⟨rfl, rfl, rfl, by decide +kernel, rfl, by decide +kernel, by decide +kernel⟩
theorem ok_formI {f C CF g1 g2 g3 : Addr} {fd d1 d2 d3 : FuncData} {dvs : List V} (F : FunD K "__init__" "Form.__init__" (defArgs sF_init) (defBody sF_init) (defScope sF_init) dvs [] f fd) (C' : FrmC K CF) (CS : SerC K C) (mmin : mg "min" = none) (G1 : Df P w K mg base 2 g1 d1 "are_sources" ["value"] (spAreSrc C)) (G2 : Df P w K mg base 2 g2 d2 "are_boxes" ["value"] (spAreBox C)) (G3 : Df P w K mg base 1 g3 d3 "not_zero" ["table"] (spNotZero C)) :
    FnOk P w K mg base CX0 3 f fd ["self", "sources", "boxes"] (spFormI C CF) := by
  refine F.ok scF_init (fun vs H Q E h => ?_) (fun cdv A outer s H vs Q E hr h => ?_)
  · obtain ⟨a, dx, x, y, U, k1, k2, val, rfl, _⟩ := h
    rfl
  obtain ⟨a, dx, x, y, U, k1, k2, val, rfl, ha, I, q⟩ := h
  obtain ⟨A1, A2, z1, z2, fr, hu⟩ := I
  have hsz : 1000000 < sizeLine := by decide
  refine ⟨_, (C8.pss_cut (ps_set (i := 3) scF_init.nd rfl (by first | exact Or.inl rfl | exact Or.inr rfl) (pe_ifExp (pt_cmpR op_isN (pv 1) pe_non (nomark _)) pe_dnewK (pv 1)))
 (C8.pss_cut (ps_set (i := 4) scF_init.nd rfl (by first | exact Or.inl rfl | exact Or.inr rfl) (pe_ifExp (pt_cmpR op_isN (pv 2) pe_non (nomark _)) pe_dnewK (pv 2)))
 (pss_cons (ps_if (PW.pt (pw_or (pt_not (pt_val (pe_call G1.ok (hr.mono (by decide)) (by rfl) G1.m G1.kp G1.b .nil pass0 (pa_cons (pv 3) pa_nil)))) (pw_or1 (pt_not (pt_val (pe_call G2.ok (hr.mono (by decide)) (by rfl) G2.m G2.kp G2.b .nil pass0 (pa_cons (pv 4) pa_nil)))))))
 pss_never
 pss_nil)
 (pss_cons (ps_fld (pv 0) (pe_call G3.ok (hr.mono (by decide)) (by rfl) G3.m G3.kp G3.b .nil pass0 (pa_cons (pv 3) pa_nil)) rfl)
 (pss_cons (ps_fld (pv 0) (pe_call G3.ok (hr.mono (by decide)) (by rfl) G3.m G3.kp G3.b .nil pass0 (pa_cons (pv 4) pa_nil)) rfl)
 (pss_cons (ps_set (i := 5) scF_init.nd rfl (by first | exact Or.inl rfl | exact Or.inr rfl) (pe_lst (StX.pa_star (pe_lock (by exact (pe_lc (own := [("series", 6)]) (g := (gName 6)) rfl scF_init.nd (pi_values (pe_fld (pv 0) rfl)) (blkOk_by (own := [("series", 6)]) (N := ["self", "sources", "boxes", "for_sources", "for_boxes", "orders", "series"]) (sc := defScope sF_init) (by decide +kernel)) (fun _ _ _ _ _ => (pg_name (i := 6) scF_init.nd rfl (Or.inl rfl) (Or.inr rfl))) (fun _ _ _ _ _ => pts_nil) (fun _ _ _ _ _ => (pe_fldK (K := K) rfl (pv 6) rfl))))) (StX.pa_star (pe_lock (by exact (pe_lc (own := [("series", 6)]) (g := (gName 6)) rfl scF_init.nd (pi_values (pe_fld (pv 0) rfl)) (blkOk_by (own := [("series", 6)]) (N := ["self", "sources", "boxes", "for_sources", "for_boxes", "orders", "series"]) (sc := defScope sF_init) (by decide +kernel)) (fun _ _ _ _ _ => (pg_name (i := 6) scF_init.nd rfl (Or.inl rfl) (Or.inr rfl))) (fun _ _ _ _ _ => pts_nil) (fun _ _ _ _ _ => (pe_fldK (K := K) rfl (pv 6) rfl))))) pa_nil))))
 (pss_one (ps_fld (pv 0) (pe_callBK (MnD.cr_minDf rfl (MnD.un4 hr)) (by rfl) mmin (by decide +kernel) (pa_cons (pv 5) pa_nil) (pk_cons pe_non pk_nil)) rfl)))))))), ?_⟩
  refine ⟨fun σ H1 => ∃ d1, σ = [some (.ref a), some x, some y, some (.ref d1), none, none, none] ∧ Same H H1 ∧ TVal H1 C d1 U k1 val ∧ ∀ p ∈ k1, SrcOk p.1, ?_, ?_⟩
  · rcases A1 with ⟨rfl, rfl⟩ | ⟨d, rfl, T, hn⟩
    · refine ⟨_, rfl, rfl, ?_⟩
      rw [decide_eq_true rfl]
      refine ⟨_, rfl, iteT fun d hd => ?_⟩
      exact ⟨d, rfl, same_upd hd _, ⟨upd_same, (fun p hp => nomatch hp), List.nodup_nil, (fun p hp => nomatch hp), hu⟩, fun p hp => nomatch hp⟩
    · refine ⟨_, rfl, rfl, ?_⟩
      rw [decide_eq_false (fun e => by cases e)]
      exact ⟨_, rfl, iteF ⟨_, rfl, d, rfl, Same.refl _, T, hn⟩⟩
  rintro σ H1 ⟨e1, rfl, s1, T1, n1⟩
  refine ⟨fun σ H2 => ∃ d2, σ = [some (.ref a), some x, some y, some (.ref e1), some (.ref d2), none, none] ∧ Same H H2 ∧ TVal H2 C e1 U k1 val ∧ TVal H2 C d2 U k2 val ∧ ∀ p ∈ k2, BoxOk p.1, ?_, ?_⟩
  · rcases A2 with ⟨rfl, rfl⟩ | ⟨d, rfl, T, hn⟩
    · refine ⟨_, rfl, rfl, ?_⟩
      rw [decide_eq_true rfl]
      refine ⟨_, rfl, iteT fun d hd => ?_⟩
      exact ⟨d, rfl, s1.trans (same_upd hd _), T1.same (same_upd hd _), ⟨upd_same, (fun p hp => nomatch hp), List.nodup_nil, (fun p hp => nomatch hp), hu⟩, fun p hp => nomatch hp⟩
    · refine ⟨_, rfl, rfl, ?_⟩
      rw [decide_eq_false (fun e => by cases e)]
      exact ⟨_, rfl, iteF ⟨_, rfl, d, rfl, s1, T1, T.same s1, hn⟩⟩
  rintro σ H2 ⟨e2, rfl, s2, T1, T2, n2⟩
  refine ⟨_, rfl, e1, k1, rfl, T1.st, n1, fun H3 s3 => ⟨_, rfl, iteF ?_⟩⟩
  refine ⟨_, rfl, e2, k2, rfl, (T2.same s3).st, n2, fun H4 s4 => ⟨_, rfl, iteF ?_⟩⟩
  have s24 := s3.trans s4
  have T1 := T1.same s24
  have T2 := T2.same s24
  have s4' := s2.trans s24
  refine ⟨_, rfl, e1, k1, keepF val, rfl, T1.st, T1.keep, fun g1 H5 s5 hg1 h5 => ?_⟩
  have T1' := T1.filt s5 h5
  have T2 := T2.same s5
  have s5' := s4'.trans s5
  have na1 : g1 ≠ a := fun e => by rw [e] at hg1; rw [s4' _ _ ha] at hg1; cases hg1
  refine ⟨_, rfl, a, CF, dx, _, rfl, s5' _ _ ha, C'.cl, C'.s, (by show (0 : Nat) < 1000; decide), ?_⟩
  have no0 : NoSer (.ins CF dx []) := ⟨fun _ _ _ _ _ z => (by cases z), fun _ z => by cases z⟩
  have nde : ∀ {H' : Hp} {d : Addr} {fs : List (Str × V)} {kvs : List (Key × V)}, H' a = some (.ins CF dx fs) → H' d = some (.dK kvs) → a ≠ d := fun h1 h2 e => by rw [e, h2] at h1; cases h1
  have ha5 := s5' _ _ ha
  have T1 : TVal (upd H5 a (.ins CF dx (putF "_sources" (.ref g1) []))) C g1 U (k1.filter (keepF val)) val := T1'.up ha5 no0 (nde ha5 T1'.at_)
  have T2 : TVal (upd H5 a (.ins CF dx (putF "_sources" (.ref g1) []))) C e2 U k2 val := T2.up ha5 no0 (nde ha5 T2.at_)
  have ha6 : upd H5 a (.ins CF dx (putF "_sources" (.ref g1) [])) a = some (.ins CF dx [("_sources", .ref g1)]) := upd_same
  have k6 : ∀ b o, b ≠ a → H b = some o → upd H5 a (.ins CF dx (putF "_sources" (.ref g1) [])) b = some o := fun b o n e => by rw [upd_ne n]; exact s5' _ _ e
  generalize upd H5 a (.ins CF dx (putF "_sources" (.ref g1) [])) = H6 at T1 T2 ha6 k6 ⊢
  refine ⟨_, rfl, e2, k2, keepF val, rfl, T2.st, T2.keep, fun g2 H7 s7 hg2 h7 => ?_⟩
  have T2 := T2.filt s7 h7
  have T1 := T1.same s7
  have ha7 := s7 _ _ ha6
  refine ⟨_, rfl, a, CF, dx, _, rfl, ha7, C'.cl, C'.b, (by show (1 : Nat) < 1000; decide), ?_⟩
  have no1 : NoSer (.ins CF dx [("_sources", .ref g1)]) := ⟨fun _ _ _ _ _ z => (by cases z), fun _ z => by cases z⟩
  have T1 : TVal (upd H7 a (.ins CF dx (putF "_boxes" (.ref g2) [("_sources", .ref g1)]))) C g1 U (k1.filter (keepF val)) val := T1.up ha7 no1 (nde ha7 T1.at_)
  have T2 : TVal (upd H7 a (.ins CF dx (putF "_boxes" (.ref g2) [("_sources", .ref g1)]))) C g2 U (k2.filter (keepF val)) val := T2.up ha7 no1 (nde ha7 T2.at_)
  have ha8 : upd H7 a (.ins CF dx (putF "_boxes" (.ref g2) [("_sources", .ref g1)])) a = some (.ins CF dx [("_sources", .ref g1), ("_boxes", .ref g2)]) := upd_same
  have k8 : ∀ b o, b ≠ a → H b = some o → upd H7 a (.ins CF dx (putF "_boxes" (.ref g2) [("_sources", .ref g1)])) b = some o := fun b o n e => by rw [upd_ne n]; exact s7 _ _ (k6 b o n e)
  generalize upd H7 a (.ins CF dx (putF "_boxes" (.ref g2) [("_sources", .ref g1)])) = H8 at T1 T2 ha8 k8 ⊢
  dsimp only [tSeq, tAsg, tLst, StX.tStar]
  refine rd_ords CS T1 filt_nz (fun od R r => ?_) fun m1 H9 s9 hm1 h9 => ?_
  · have ha9 : upd H8 g1 (.frz od (.dK (k1.filter (keepF val)))) a = some (.ins CF dx [("_sources", .ref g1), ("_boxes", .ref g2)]) := by rw [upd_ne (nde ha8 T1.at_)]; exact ha8
    exact ⟨_, rfl, a, CF, dx, _, _, rfl, ha9, C'.cl, C'.s, rfl, r⟩
  have T2 := T2.same s9
  have T1 := T1.same s9
  have ha9 := s9 _ _ ha8
  refine ⟨m1, _, rfl, .inr (SqL.of h9), ?_⟩
  refine rd_ords CS T2 filt_nz (fun od R r => ?_) fun m2 H10 s10 hm2 h10 => ?_
  · have ha10 : upd H9 g2 (.frz od (.dK (k2.filter (keepF val)))) a = some (.ins CF dx [("_sources", .ref g1), ("_boxes", .ref g2)]) := by rw [upd_ne (nde ha9 T2.at_)]; exact ha9
    exact ⟨_, rfl, a, CF, dx, _, _, rfl, ha10, C'.cl, C'.b, rfl, r⟩
  have T2 := T2.same s10
  have T1 := T1.same s10
  have ha10 := s10 _ _ ha9
  have l1 := T1.l
  have l2 := T2.l
  refine ⟨m2, _, rfl, .inr (SqL.of h10), ?_⟩
  have el : (ords (k1.filter (keepF val)) val).map V.int ++ ((ords (k2.filter (keepF val)) val).map V.int ++ []) = (ords (k1.filter (keepF val)) val ++ ords (k2.filter (keepF val)) val).map V.int := by
    rw [List.append_nil, List.map_append]
  show _ ∧ _
  rw [el]
  refine ⟨?_, fun l hl => ?_⟩
  · rw [List.length_map, List.length_append]
    unfold ords
    rw [List.length_map, List.length_map]
    omega
  have s11 := same_upd hl (.lst ((ords (k1.filter (keepF val)) val ++ ords (k2.filter (keepF val)) val).map V.int))
  have gl : upd H10 l (.lst ((ords (k1.filter (keepF val)) val ++ ords (k2.filter (keepF val)) val).map V.int)) l = some (.lst ((ords (k1.filter (keepF val)) val ++ ords (k2.filter (keepF val)) val).map V.int)) := upd_same
  generalize upd H10 l (.lst ((ords (k1.filter (keepF val)) val ++ ords (k2.filter (keepF val)) val).map V.int)) = H11 at s11 gl ⊢
  have T2 := T2.same s11
  have T1 := T1.same s11
  have ha11 := s11 _ _ ha10
  have s811 := s9.trans (s10.trans s11)
  have no2 : NoSer (.ins CF dx [("_sources", .ref g1), ("_boxes", .ref g2)]) := ⟨fun _ _ _ _ _ z => (by cases z), fun _ z => by cases z⟩
  have fin : ∀ o, OrdF (k1.filter (keepF val)) (k2.filter (keepF val)) val o → Q .non (upd H11 a (.ins CF dx (putF "order" o [("_sources", .ref g1), ("_boxes", .ref g2)]))) := fun o ho => by
    refine q _ (fun b ob n e => by rw [upd_ne n]; exact s811 _ _ (k8 b ob n e)) ⟨dx, g1, g2, o, _, _, ⟨upd_same, T1.up ha11 no2 (nde ha11 T1.at_), T2.up ha11 no2 (nde ha11 T2.at_), fun p hp => n1 p (List.mem_filter.mp hp).1, fun p hp => n2 p (List.mem_filter.mp hp).1, filt_nz, filt_nz, filt_z z1, filt_z z2, fr, ho⟩, s4'.free hg1, ?_⟩
    cases e : H g2 with
    | none => rfl
    | some ob =>
      by_cases n : g2 = a
      · rw [n, ha6] at hg2; cases hg2
      · rw [k6 _ _ n e] at hg2; cases hg2
  refine ⟨_, rfl, l, _, rfl, rfl, SqL.of gl, fun e0 => ?_, fun m hm hle => ?_⟩
  · refine ⟨_, rfl, a, CF, dx, _, rfl, ha11, C'.cl, C'.o, (by show (2 : Nat) < 1000; decide), fin _ (.inl ?_)⟩
    obtain ⟨e1', e2'⟩ := List.append_eq_nil_iff.mp e0
    exact ⟨List.map_eq_nil_iff.mp e1', List.map_eq_nil_iff.mp e2', rfl⟩
  · exact ⟨_, rfl, a, CF, dx, _, rfl, ha11, C'.cl, C'.o, (by show (2 : Nat) < 1000; decide), fin _ (ords_min hm hle)⟩
end
end Un
namespace Un
open PySem L2 TL
section
variable {P : Program} {w : World} {K : PySem.W.Frag} {mg : Str → Option Value} {base : Heap}
/-! ### what a form tells -/
abbrev sF_source : Stmt := inClass sForm 1
abbrev sF_box : Stmt := inClass sForm 2
abbrev sF_sources : Stmt := inClass sForm 3
abbrev sF_boxes : Stmt := inClass sForm 4
abbrev sF_bool : Stmt := inClass sForm 12
abbrev frmPs : List Str := ["self", "sources", "boxes"]
structure MakF (P : Program) (w : World) (K : PySem.W.Frag) (mg : Str → Option Value) (base : Heap) (C CF : Addr) (fI : Addr) (fd : FuncData) : Prop where
  mkF : Mk K CF fI
  ok : FnOk P w K mg base CX0 3 fI fd frmPs (spFormI C CF)
  m : mg "Form" = some (.ref CF)
  b2 : Binds K fd frmPs []
  b1 : Binds K fd frmPs [Value.none]
  b0 : Binds K fd frmPs [Value.none, Value.none]
theorem form_made {C CF a dx : Addr} {H : Hp} {x y : V} {U : List Key} {k1 k2 : List (Key × V)} {val : Vf} {R : Hp → Prop} (ha : H a = none) (hdx : H dx = none) (ne : dx ≠ a) (I : FormIn H C x y U k1 k2 val) (h : ∀ H', Same H H' → FormN H H' C CF a U val → R H') :
    spFormI C CF [.ref a, x, y] (upd (upd H dx (.own a)) a (.ins CF dx [])) (fun v H2 => v = .non ∧ R H2) E0 := by
  have h1 : upd H dx (.own a) a = none := by rw [upd_ne ne.symm]; exact ha
  have s : Same H (upd (upd H dx (.own a)) a (.ins CF dx [])) := (same_upd hdx _).trans (same_upd h1 _)
  exact ⟨a, dx, x, y, U, k1, k2, val, rfl, upd_same, I.same s, fun H' keep V' => ⟨rfl, h H' (fun b o hb => keep b o (ne_of_none hb ha) (s b o hb)) (V'.old s)⟩⟩
theorem zero_made {C a dx : Addr} {H : Hp} {x y : V} {v : SerM.Po × SerM.Po} {R : Hp → Prop} (ha : H a = none) (hdx : H dx = none) (ne : dx ≠ a) (Rx : RowV K H x []) (Ry : RowV K H y [1]) (F : Frac v.1 v.2 uni) (z : Zp v) (h : ∀ H', Same H H' → ValU H' C a v.1 v.2 → R H') :
    spSerI K C [.ref a, x, y] (upd (upd H dx (.own a)) a (.ins C dx [])) (fun v H2 => v = .non ∧ R H2) E0 :=
  ser_madeV ha hdx ne Rx Ry F fit1U.a (by decide) (by decide) (fun i => by rw [SerM.co_nil]; decide) (fun i => by
    cases i with
    | zero => decide
    | succ i => rw [SerM.co_len (by show 1 ≤ i + 1; omega)]; decide) rfl (fun x => by rw [z x]; show (0 : Int) * _ = 0 * _; omega) h
def spSource (C CF : Addr) : Sp := fun vs H Q _ => ∃ (a : Addr) (z : Str) (U : List Key) (val : Vf), vs = [.ref a, .str z] ∧ z.length ≤ 1000 ∧ FormV H C CF a U val ∧ ∀ b H', Same H H' → ValU H' C b (val (Sum.inr z)).1 (val (Sum.inr z)).2 → Q (.ref b) H'
def spBox (C CF : Addr) : Sp := fun vs H Q _ => ∃ (a : Addr) (i : Int) (U : List Key) (val : Vf), vs = [.ref a, .int i] ∧ FormV H C CF a U val ∧ ∀ b H', Same H H' → ValU H' C b (val (Sum.inl i)).1 (val (Sum.inl i)).2 → Q (.ref b) H'
/-- the names, the indexes of what is not zero, ascending -/
structure SrcL (U : List Key) (val : Vf) (ys : List Str) : Prop where
  srt : PyProof.Rows.sortedS ys = true
  iff : ∀ z, z ∈ ys ↔ ¬ Zp (val (Sum.inr z))
  nd : ys.Nodup
  nm : ∀ z ∈ ys, IsNm z
  u : ∀ z ∈ ys, Sum.inr z ∈ U
  l : ys.length ≤ 40
structure BoxL (U : List Key) (val : Vf) (ys : List Int) : Prop where
  srt : ys.Pairwise (· ≤ ·)
  iff : ∀ z, z ∈ ys ↔ ¬ Zp (val (Sum.inl z))
  nd : ys.Nodup
  nn : ∀ z ∈ ys, 0 ≤ z
  u : ∀ z ∈ ys, Sum.inl z ∈ U
  l : ys.length ≤ 40
def spSourcesF (C CF : Addr) : Sp := fun vs H Q _ => ∃ (a : Addr) (U : List Key) (val : Vf), vs = [.ref a] ∧ FormV H C CF a U val ∧ ∀ l ys H', Same H H' → H l = none → H' l = some (.lst (ys.map V.str)) → SrcL U val ys → Q (.ref l) H'
def spBoxesF (C CF : Addr) : Sp := fun vs H Q _ => ∃ (a : Addr) (U : List Key) (val : Vf), vs = [.ref a] ∧ FormV H C CF a U val ∧ ∀ l ys H', Same H H' → H l = none → H' l = some (.lst (ys.map V.int)) → BoxL U val ys → Q (.ref l) H'
theorem names_of {k1 : List (Key × V)} (h : ∀ p ∈ k1, SrcOk p.1) : ∃ zs : List Str, k1.map (·.1) = zs.map Sum.inr := by
  induction k1 with
  | nil => exact ⟨[], rfl⟩
  | cons p r ih =>
    obtain ⟨zs, e⟩ := ih fun q hq => h q (List.mem_cons_of_mem _ hq)
    obtain ⟨z, ez, _⟩ := h p List.mem_cons_self
    exact ⟨z :: zs, by rw [List.map_cons, List.map_cons, e, ez]⟩
theorem nums_of {k1 : List (Key × V)} (h : ∀ p ∈ k1, BoxOk p.1) : ∃ zs : List Int, k1.map (·.1) = zs.map Sum.inl := by
  induction k1 with
  | nil => exact ⟨[], rfl⟩
  | cons p r ih =>
    obtain ⟨zs, e⟩ := ih fun q hq => h q (List.mem_cons_of_mem _ hq)
    obtain ⟨z, ez, _⟩ := h p List.mem_cons_self
    exact ⟨z :: zs, by rw [List.map_cons, List.map_cons, e, ez]⟩
theorem srcl_of {H : Hp} {C CF a dx d1 d2 : Addr} {o : V} {U : List Key} {k1 k2 : List (Key × V)} {val : Vf} {zs ys : List Str} (R : FormR H C CF a dx d1 d2 o U k1 k2 val) (e : k1.map (·.1) = zs.map Sum.inr) (p : ys.Perm zs) (s : PyProof.Rows.sortedS ys = true) : SrcL U val ys := by
  have hin : ∀ z, z ∈ ys ↔ KeysIn k1 (Sum.inr z) := fun z => by
    rw [p.mem_iff]
    unfold KeysIn
    rw [e]
    exact ⟨fun h => List.mem_map.mpr ⟨z, h, rfl⟩, fun h => by obtain ⟨y, hy, ey⟩ := List.mem_map.mp h; cases ey; exact hy⟩
  refine ⟨s, fun z => ?_, ?_, fun z hz => ?_, fun z hz => ?_, ?_⟩
  · rw [hin]
    constructor
    · intro h
      obtain ⟨q, hq, eq⟩ := List.mem_map.mp h
      rw [← eq]; exact R.nz1 q hq
    · intro h
      exact Classical.byContradiction fun n => h (R.z1 _ ⟨z, rfl⟩ n)
  · have := R.t1.nd
    rw [e] at this
    exact p.nodup_iff.mpr ((List.pairwise_map.mp this).imp fun h e => h (congrArg _ e))
  · obtain ⟨q, hq, eq⟩ := List.mem_map.mp ((hin z).mp hz)
    obtain ⟨y, ey, hy⟩ := R.n1 q hq
    rw [eq] at ey
    cases ey
    exact hy
  · obtain ⟨q, hq, eq⟩ := List.mem_map.mp ((hin z).mp hz)
    rw [← eq]; exact R.t1.sub q hq
  · have h1 := congrArg List.length e
    rw [List.length_map, List.length_map] at h1
    have := R.t1.l
    rw [p.length_eq]; omega
theorem boxl_of {H : Hp} {C CF a dx d1 d2 : Addr} {o : V} {U : List Key} {k1 k2 : List (Key × V)} {val : Vf} {zs ys : List Int} (R : FormR H C CF a dx d1 d2 o U k1 k2 val) (e : k2.map (·.1) = zs.map Sum.inl) (p : ys.Perm zs) (s : ys.Pairwise (· ≤ ·)) : BoxL U val ys := by
  have hin : ∀ z, z ∈ ys ↔ KeysIn k2 (Sum.inl z) := fun z => by
    rw [p.mem_iff]
    unfold KeysIn
    rw [e]
    exact ⟨fun h => List.mem_map.mpr ⟨z, h, rfl⟩, fun h => by obtain ⟨y, hy, ey⟩ := List.mem_map.mp h; cases ey; exact hy⟩
  refine ⟨s, fun z => ?_, ?_, fun z hz => ?_, fun z hz => ?_, ?_⟩
  · rw [hin]
    constructor
    · intro h
      obtain ⟨q, hq, eq⟩ := List.mem_map.mp h
      rw [← eq]; exact R.nz2 q hq
    · intro h
      exact Classical.byContradiction fun n => h (R.z2 _ ⟨z, rfl⟩ n)
  · have := R.t2.nd
    rw [e] at this
    exact p.nodup_iff.mpr ((List.pairwise_map.mp this).imp fun h e => h (congrArg _ e))
  · obtain ⟨q, hq, eq⟩ := List.mem_map.mp ((hin z).mp hz)
    obtain ⟨y, ey, hy⟩ := R.n2 q hq
    rw [eq] at ey
    cases ey
    exact hy
  · obtain ⟨q, hq, eq⟩ := List.mem_map.mp ((hin z).mp hz)
    rw [← eq]; exact R.t2.sub q hq
  · have h1 := congrArg List.length e
    rw [List.length_map, List.length_map] at h1
    have := R.t2.l
    rw [p.length_eq]; omega
theorem scF_source : FnScope ["self", "name"] ["self", "name"] (defScope sF_source) := ⟨rfl, rfl, rfl, by decide +kernel, rfl, by decide +kernel, by decide +kernel⟩
theorem scF_box : FnScope ["self", "index"] ["self", "index"] (defScope sF_box) := ⟨rfl, rfl, rfl, by decide +kernel, rfl, by decide +kernel, by decide +kernel⟩
theorem scF_sources : FnScope ["self"] ["self"] (defScope sF_sources) := ⟨rfl, rfl, rfl, by decide +kernel, rfl, by decide +kernel, by decide +kernel⟩
theorem scF_boxes : FnScope ["self"] ["self"] (defScope sF_boxes) := ⟨rfl, rfl, rfl, by decide +kernel, rfl, by decide +kernel, by decide +kernel⟩
theorem scF_bool : FnScope ["self"] ["self"] (defScope sF_bool) := ⟨rfl, rfl, rfl, by decide +kernel, rfl, by decide +kernel, by decide +kernel⟩
theorem ok_srcs {f C CF : Addr} {fd : FuncData} (F : Fun K "sources" "Form.sources" sF_sources f fd) (C' : FrmC K CF) (msorted : mg "sorted" = none) (mlist : mg "list" = none) : FnOk P w K mg base CX0 1 f fd ["self"] (spSourcesF C CF) := by
  refine F.ok scF_sources (fun vs H Q E h => ?_) (fun cdv A outer s H vs Q E hr h => ?_)
  · obtain ⟨a, U, val, rfl, _⟩ := h
    rfl
  obtain ⟨a, U, val, rfl, ⟨dx, d1, d2, o, k1, k2, R⟩, q⟩ := h
  obtain ⟨zs, ez⟩ := names_of R.n1
  refine ⟨_, (pss_one (ps_ret (pe_callB cr_sortedS (by rfl) msorted (by decide +kernel) (pa_cons (pe_callTy (call_listD rfl) (by rfl) mlist (by decide +kernel) (pa_cons (pe_fld (pv 0) rfl) pa_nil)) pa_nil)))), ?_⟩
  refine ⟨_, rfl, a, CF, dx, _, _, rfl, R.ha, C'.cl, C'.s, rfl, d1, k1, rfl, .inl R.t1.at_, fun m hm => ?_⟩
  have e1 : k1.map (fun kv => kV kv.1) = zs.map V.str := by
    have : k1.map (fun kv => kV kv.1) = (k1.map (·.1)).map kV := by rw [List.map_map]; rfl
    rw [this, ez, List.map_map]; rfl
  have h1 := congrArg List.length ez
  rw [List.length_map, List.length_map] at h1
  have := R.t1.l
  refine ⟨m, zs, rfl, SqL.of (by rw [upd_same, e1]), by omega, fun ys l p srt hl => ?_⟩
  have hlH : H l = none := (same_upd hm _).free hl
  exact q l ys _ ((same_upd hm _).trans (same_upd hl _)) hlH upd_same (srcl_of R ez p srt)
theorem ok_boxs {f C CF : Addr} {fd : FuncData} (F : Fun K "boxes" "Form.boxes" sF_boxes f fd) (C' : FrmC K CF) (msorted : mg "sorted" = none) (mlist : mg "list" = none) : FnOk P w K mg base CX0 1 f fd ["self"] (spBoxesF C CF) := by
  refine F.ok scF_boxes (fun vs H Q E h => ?_) (fun cdv A outer s H vs Q E hr h => ?_)
  · obtain ⟨a, U, val, rfl, _⟩ := h
    rfl
  obtain ⟨a, U, val, rfl, ⟨dx, d1, d2, o, k1, k2, R⟩, q⟩ := h
  obtain ⟨zs, ez⟩ := nums_of R.n2
  refine ⟨_, (pss_one (ps_ret (pe_callB cr_sorted (by rfl) msorted (by decide +kernel) (pa_cons (pe_callTy (call_listD rfl) (by rfl) mlist (by decide +kernel) (pa_cons (pe_fld (pv 0) rfl) pa_nil)) pa_nil)))), ?_⟩
  refine ⟨_, rfl, a, CF, dx, _, _, rfl, R.ha, C'.cl, C'.b, rfl, d2, k2, rfl, .inl R.t2.at_, fun m hm => ?_⟩
  have e1 : k2.map (fun kv => kV kv.1) = zs.map V.int := by
    have : k2.map (fun kv => kV kv.1) = (k2.map (·.1)).map kV := by rw [List.map_map]; rfl
    rw [this, ez, List.map_map]; rfl
  have h1 := congrArg List.length ez
  rw [List.length_map, List.length_map] at h1
  have := R.t2.l
  refine ⟨m, zs, rfl, SqL.of (by rw [upd_same, e1]), by omega, fun ys l p srt hl => ?_⟩
  have hlH : H l = none := (same_upd hm _).free hl
  exact q l ys _ ((same_upd hm _).trans (same_upd hl _)) hlH upd_same (boxl_of R ez p srt)
theorem tval_get {H : Hp} {C d : Addr} {U : List Key} {kvs : List (Key × V)} {val : Vf} {k : Key} {v : V} (T : TVal H C d U kvs val) (e : valV kvs k = some v) : ∃ b, v = .ref b ∧ ValU H C b (val k).1 (val k).2 := T.ser _ (valV_mem e)
theorem ok_source {f C CF g fI : Addr} {fd gd dI : FuncData} {d : V} {dv : List Value} (F : Fun K "source" "Form.source" sF_source f fd) (C' : FrmC K CF) (MS : MakS P w K mg base C fI dI d dv) (GN : Df P w K mg base 1 g gd "is_name" ["value"] (spName K)) : FnOk P w K mg base CX0 7 f fd ["self", "name"] (spSource C CF) := by
  refine F.ok scF_source (fun vs H Q E h => ?_) (fun cdv A outer s H vs Q E hr h => ?_)
  · obtain ⟨a, z, U, val, rfl, _⟩ := h
    rfl
  obtain ⟨a, z, U, val, rfl, zl, ⟨dx, d1, d2, o, k1, k2, R⟩, q⟩ := h
  refine ⟨_, (pss_one (ps_ret (pe_ifExp (PW.pt (pw_and (pt_val (pe_call GN.ok (hr.mono (by decide)) (by rfl) GN.m GN.kp GN.b .nil pass0 (pa_cons (pv 1) pa_nil))) (pw_and1 (pt_cmp (pc_din (hu_of hr) (pv 1) (pe_fld (pv 0) rfl)))))) (pe_dget (hu_of hr) (pe_fld (pv 0) rfl) (pv 1) (fun _ _ => rfl)) (pe_make MS.mkS MS.ok (hr.mono (by decide)) (by rfl) MS.m MS.b1 MS.dS pass0 (pa_cons (pe_lst pa_nil) pa_nil))))), ?_⟩
  have zero : ∀ H1, Same H H1 → Zp (val (Sum.inr z)) → tMake C (spSerI K C) [d] E0 (tCons (tLst tNil) tNil) [some (.ref a), some (.str z)] H1 (fun v H' => Q v H') := fun H1 s1 hz => by
    refine ⟨(by show 0 ≤ sizeLine; decide), fun l hl => ?_⟩
    have s2 := same_upd hl (.lst [])
    have h2 : upd H1 l (.lst []) l = some (.lst (iv [])) := upd_same
    generalize upd H1 l (.lst []) = H2 at s2 h2 ⊢
    intro b dx hb hdx ne
    exact zero_made (C := C) hb hdx ne (RowV.lst h2) (MS.row _) (R.fr _) hz fun H' s3 V' => q b H' ((s1.trans s2).trans s3) V'
  refine ⟨_, rfl, _, rfl, .inl ⟨z, rfl, zl, fun H1 s1 => ⟨_, rfl, ?_⟩⟩⟩
  have R1 := R.same s1
  by_cases nb : nameB z = true
  · rw [nb]
    refine iteT ?_
    refine ⟨_, rfl, _, rfl, a, CF, dx, _, _, rfl, R1.ha, C'.cl, C'.s, rfl, d1, _, rfl, DGet.k (k := Sum.inr z) R1.t1.at_, ?_⟩
    cases e : valV k1 (Sum.inr z) with
    | some v =>
      obtain ⟨b, rfl, V'⟩ := tval_get R1.t1 e
      refine ⟨_, rfl, iteT ?_⟩
      exact ⟨_, rfl, a, CF, dx, _, _, rfl, R1.ha, C'.cl, C'.s, rfl, _, rfl, d1, _, rfl, by rw [← e]; exact DGet.k (k := Sum.inr z) R1.t1.at_, q b H1 s1 V'⟩
    | none =>
      refine ⟨_, rfl, iteF ?_⟩
      exact zero H1 s1 (R.z1 _ ⟨z, rfl⟩ (valV_none e))
  · rw [show nameB z = false by cases h : nameB z <;> first | rfl | exact absurd h nb]
    refine iteF ?_
    refine zero H1 s1 (R.z1 _ ⟨z, rfl⟩ fun hi => nb ?_)
    obtain ⟨p, hp, ep⟩ := List.mem_map.mp hi
    obtain ⟨y, ey, hy⟩ := R.n1 p hp
    rw [ep] at ey
    cases ey
    exact hy.b
theorem ok_box {f C CF g fI : Addr} {fd gd dI : FuncData} {d : V} {dv : List Value} (F : Fun K "box" "Form.box" sF_box f fd) (C' : FrmC K CF) (MS : MakS P w K mg base C fI dI d dv) (GI : Df P w K mg base 1 g gd "is_integer" ["value"] (spInteger K)) : FnOk P w K mg base CX0 7 f fd ["self", "index"] (spBox C CF) := by
  refine F.ok scF_box (fun vs H Q E h => ?_) (fun cdv A outer s H vs Q E hr h => ?_)
  · obtain ⟨a, i, U, val, rfl, _⟩ := h
    rfl
  obtain ⟨a, i, U, val, rfl, ⟨dx, d1, d2, o, k1, k2, R⟩, q⟩ := h
  refine ⟨_, (pss_one (ps_ret (pe_ifExp (PW.pt (pw_and (pt_val (pe_call GI.ok (hr.mono (by decide)) (by rfl) GI.m GI.kp GI.b .nil pass0 (pa_cons (pv 1) pa_nil))) (pw_and1 (pt_cmp (pc_din (hu_of hr) (pv 1) (pe_fld (pv 0) rfl)))))) (pe_dget (hu_of hr) (pe_fld (pv 0) rfl) (pv 1) (fun _ _ => rfl)) (pe_make MS.mkS MS.ok (hr.mono (by decide)) (by rfl) MS.m MS.b1 MS.dS pass0 (pa_cons (pe_lst pa_nil) pa_nil))))), ?_⟩
  refine ⟨_, rfl, _, "int", true, false, rfl, .base (.int _), by decide +kernel, by decide +kernel, _, rfl, iteT ?_⟩
  refine ⟨_, rfl, _, rfl, a, CF, dx, _, _, rfl, R.ha, C'.cl, C'.b, rfl, d2, _, rfl, DGet.k (k := Sum.inl i) R.t2.at_, ?_⟩
  cases e : valV k2 (Sum.inl i) with
  | some v =>
    obtain ⟨b, rfl, V'⟩ := tval_get R.t2 e
    refine ⟨_, rfl, iteT ?_⟩
    exact ⟨_, rfl, a, CF, dx, _, _, rfl, R.ha, C'.cl, C'.b, rfl, _, rfl, d2, _, rfl, by rw [← e]; exact DGet.k (k := Sum.inl i) R.t2.at_, q b H (Same.refl _) V'⟩
  | none =>
    refine ⟨_, rfl, iteF ?_⟩
    refine ⟨(by show 0 ≤ sizeLine; decide), fun l hl => ?_⟩
    have s2 := same_upd hl (.lst [])
    have h2 : upd H l (.lst []) l = some (.lst (iv [])) := upd_same
    generalize upd H l (.lst []) = H2 at s2 h2 ⊢
    intro b dx' hb hdx ne
    exact zero_made (C := C) hb hdx ne (RowV.lst h2) (MS.row _) (R.fr _) (R.z2 _ ⟨i, rfl⟩ (valV_none e)) fun H' s3 V' => q b H' (s2.trans s3) V'
def spBoolF (C CF : Addr) : Sp := fun vs H Q _ => ∃ (a : Addr) (U : List Key) (val : Vf), vs = [.ref a] ∧ FormV H C CF a U val ∧ ∀ b, (b = true ↔ ∃ k, (SrcK k ∨ BoxK k) ∧ ¬ Zp (val k)) → Q (.bl b) H
theorem ord_any {H : Hp} {C CF a dx d1 d2 : Addr} {o : V} {U : List Key} {k1 k2 : List (Key × V)} {val : Vf} (R : FormR H C CF a dx d1 d2 o U k1 k2 val) : (!decide (o = .non)) = true ↔ ∃ k, (SrcK k ∨ BoxK k) ∧ ¬ Zp (val k) := by
  have src : ∀ p ∈ k1, SrcK p.1 := fun p hp => by obtain ⟨z, e, _⟩ := R.n1 p hp; exact ⟨z, e⟩
  have box : ∀ p ∈ k2, BoxK p.1 := fun p hp => by obtain ⟨z, e, _⟩ := R.n2 p hp; exact ⟨z, e⟩
  rcases R.ord with ⟨rfl, rfl, rfl⟩ | ⟨m, rfl, ⟨p, hp, _⟩, _⟩
  · rw [decide_eq_true rfl]
    refine ⟨fun h => (by cases h), ?_⟩
    rintro ⟨k, hk, hz⟩
    refine absurd ?_ hz
    rcases hk with hk | hk
    · exact R.z1 k hk fun h => by cases h
    · exact R.z2 k hk fun h => by cases h
  · rw [decide_eq_false fun e => by cases e]
    refine ⟨fun _ => ?_, fun _ => rfl⟩
    rcases List.mem_append.mp hp with hp | hp
    · exact ⟨p.1, .inl (src p hp), R.nz1 p hp⟩
    · exact ⟨p.1, .inr (box p hp), R.nz2 p hp⟩
theorem ok_boolF {f C CF : Addr} {fd : FuncData} (F : Fun K "__bool__" "Form.__bool__" sF_bool f fd) (C' : FrmC K CF) : FnOk P w K mg base CX0 1 f fd ["self"] (spBoolF C CF) := by
  refine F.ok scF_bool (fun vs H Q E h => ?_) (fun cdv A outer s H vs Q E hr h => ?_)
  · obtain ⟨a, U, val, rfl, _⟩ := h
    rfl
  obtain ⟨a, U, val, rfl, ⟨dx, d1, d2, o, k1, k2, R⟩, q⟩ := h
  exact ⟨_, (pss_one (ps_ret (pe_cmpR op_notN (pe_fld (pv 0) rfl) pe_non (nomark _)))), _, rfl, a, CF, dx, _, _, rfl, R.ha, C'.cl, C'.o, rfl, rfl, q _ (ord_any R)⟩
end
end Un
namespace Un
open PySem L2 TL
section
variable {P : Program} {w : World} {K : PySem.W.Frag} {mg : Str → Option Value} {base : Heap}
/-! ### dicts that are made key by key -/
/-! ### forms summed -/
abbrev frmOp : List Str := ["self", "other"]
theorem src_ok {k : Key} (h : SrcOk k) : SrcK k := by obtain ⟨z, e, _⟩ := h; exact ⟨z, e⟩
theorem box_ok {k : Key} (h : BoxOk k) : BoxK k := by obtain ⟨z, e, _⟩ := h; exact ⟨z, e⟩
theorem SumOk.z {a b c : SerM.Po × SerM.Po} (h : SumOk a b c) (z1 : Zp a) (z2 : Zp b) : Zp c := by
  have h1 := h.l z2
  obtain ⟨f1, f2, f3, _⟩ := h
  intro x
  have hz := SerM.ev_cancel (p := a.2) (a := c.1) (b := []) (SerM.nz_of1 f1.q1) fun y => by
    have := h1 y
    rw [z1 y] at this
    show _ = SerM.ev a.2 y * 0
    grind
  exact hz x
def MulOk (a b c : SerM.Po × SerM.Po) : Prop := Frac a.1 a.2 uni ∧ Frac b.1 b.2 uni ∧ Frac c.1 c.2 uni ∧ MulR a.1 a.2 b.1 b.2 c.1 c.2
theorem MulOk.z {a b c : SerM.Po × SerM.Po} (h : MulOk a b c) (z : Zp a) : Zp c := by
  obtain ⟨f1, f2, f3, h⟩ := h
  intro x
  have hz : SerM.ev (SerM.mul a.2 b.2) 0 = 1 := by rw [SerM.ev_mul, f1.q1, f2.q1]; rfl
  exact SerM.ev_cancel (p := SerM.mul a.2 b.2) (a := c.1) (b := []) (SerM.nz_of1 hz) (fun y => by
    have := h y
    rw [z y] at this
    rw [SerM.ev_mul]
    show _ = _ * 0
    grind) x
end
end Un
namespace Un
open PySem L2 TL
section
variable {P : Program} {w : World} {K : PySem.W.Frag} {mg : Str → Option Value} {base : Heap}
/-! ### - of forms, late, early -/
def m1 : SerM.Po × SerM.Po := ([-1], [1])
theorem FormV.ins {H : Hp} {C CF a : Addr} {U : List Key} {val : Vf} (h : FormV H C CF a U val) : ∃ dx fs, H a = some (.ins CF dx fs) := by
  obtain ⟨dx, d1, d2, o, k1, k2, R⟩ := h
  exact ⟨dx, _, R.ha⟩
theorem fitL : FitN uni 20 (SerM.fb uni.A uni.m) := ⟨by decide, by decide +kernel, by decide +kernel⟩
def LateOk (n : Nat) (a b : SerM.Po × SerM.Po) : Prop := Frac a.1 a.2 uni ∧ Frac b.1 b.2 uni ∧ ∀ x, SerM.ev b.1 x * SerM.ev a.2 x = x ^ n * SerM.ev a.1 x * SerM.ev b.2 x
theorem LateOk.z {n : Nat} {a b : SerM.Po × SerM.Po} (h : LateOk n a b) (z : Zp a) : Zp b := fun x =>
  SerM.ev_cancel (p := a.2) (a := b.1) (b := []) (SerM.nz_of1 h.1.q1) (fun y => by
    have := h.2.2 y
    rw [z y] at this
    show _ = _ * 0
    grind) x
def EarlyOk (n : Nat) (a b : SerM.Po × SerM.Po) : Prop := Frac a.1 a.2 uni ∧ Frac b.1 b.2 uni ∧ (∀ i, i < n → SerM.co a.1 i = 0) ∧ ∀ x, x ^ n * SerM.ev b.1 x * SerM.ev a.2 x = SerM.ev a.1 x * SerM.ev b.2 x
theorem EarlyOk.z {n : Nat} {a b : SerM.Po × SerM.Po} (h : EarlyOk n a b) (z : Zp a) : Zp b := fun x =>
  SerM.ev_cancel (p := a.2) (a := b.1) (b := []) (SerM.nz_of1 h.1.q1) (fun y => by
    have hz : SerM.NZ (zs n [1]) := ⟨n, by rw [co_zs, if_neg (by omega), Nat.sub_self]; decide⟩
    have h0 := SerM.ev_cancel (p := zs n [1]) (a := SerM.mul b.1 a.2) (b := []) hz (fun t => by
      have := h.2.2.2 t
      rw [z t] at this
      rw [ev_zs, SerM.ev_mul, ev_one']
      show _ = _ * 0
      grind) y
    rw [SerM.ev_mul] at h0
    show _ = _ * 0
    have h0 : SerM.ev b.1 y * SerM.ev a.2 y = 0 := h0
    rw [Int.mul_zero, Int.mul_comm]; exact h0) x
theorem LateOk.inn {H H1 : Hp} {C a : Addr} {n : Nat} {p q : SerM.Po × SerM.Po} {Q : VK} (h : LateOk n p q) (hn : n ≤ 10) (V1 : ValU H C a p.1 p.2) (k : ∀ b H', Same H H' → ValU H' C b q.1 q.2 → Q (.ref b) H') : LateIn H C a n Q :=
  ⟨p.1, p.2, q.1, q.2, uni, uni, 20, SerM.fb uni.A uni.m, V1, fit1U.b, by omega, by show n + 9 ≤ 20; omega, Nat.le_refl _, ⟨h.2.1, fitL, k⟩, h.2.2⟩
theorem EarlyOk.inn {H H1 : Hp} {C a : Addr} {n : Nat} {p q : SerM.Po × SerM.Po} {Q : VK} (h : EarlyOk n p q) (hn : n ≤ 10) (V1 : ValU H C a p.1 p.2) (k : ∀ b H', Same H H' → ValU H' C b q.1 q.2 → Q (.ref b) H') : EarlyIn H C a n Q :=
  ⟨p.1, p.2, q.1, q.2, uni, uni, 20, SerM.fb uni.A uni.m, V1, fit1U.b, by omega, by show 9 ≤ 20; decide, Nat.le_refl _, h.2.2.1, ⟨h.2.1, fitL, k⟩, h.2.2.2⟩
end
end Un
namespace Un
open PySem L2 TL
section
variable {P : Program} {w : World} {K : PySem.W.Frag} {mg : Str → Option Value} {base : Heap}
/-! ### <<, >>, == of forms -/
open XV AnyX
abbrev sF_eq : Stmt := inClass sForm 11
theorem scF_eq : FnScope ["self", "other"] ["self", "other"] (defScope sF_eq) := ⟨rfl, rfl, rfl, by decide +kernel, rfl, by decide +kernel, by decide +kernel⟩
/-- the order of a form with these values -/
def OrdG (val : Vf) (o : V) : Prop := (o = .non ∧ ∀ k, (SrcK k ∨ BoxK k) → Zp (val k)) ∨ ∃ m : Nat, o = .int m ∧ (∃ k, (SrcK k ∨ BoxK k) ∧ ¬ Zp (val k) ∧ ordN (val k) = m) ∧ ∀ k, (SrcK k ∨ BoxK k) → ¬ Zp (val k) → m ≤ ordN (val k)
theorem FormR.og {H : Hp} {C CF a dx d1 d2 : Addr} {o : V} {U : List Key} {k1 k2 : List (Key × V)} {val : Vf} (R : FormR H C CF a dx d1 d2 o U k1 k2 val) : OrdG val o := by
  have kin : ∀ k, (SrcK k ∨ BoxK k) → ¬ Zp (val k) → ∃ p ∈ k1 ++ k2, p.1 = k := fun k hk hz => by
    rcases hk with hk | hk
    · have : KeysIn k1 k := Classical.byContradiction fun n => hz (R.z1 k hk n)
      obtain ⟨p, hp, e⟩ := List.mem_map.mp this
      exact ⟨p, List.mem_append_left _ hp, e⟩
    · have : KeysIn k2 k := Classical.byContradiction fun n => hz (R.z2 k hk n)
      obtain ⟨p, hp, e⟩ := List.mem_map.mp this
      exact ⟨p, List.mem_append_right _ hp, e⟩
  rcases R.ord with ⟨e1, e2, e3⟩ | ⟨m, e, ⟨p, hp, hm⟩, hle⟩
  · refine .inl ⟨e3, fun k hk => Classical.byContradiction fun n => ?_⟩
    obtain ⟨p, hp, _⟩ := kin k hk n
    rw [e1, e2] at hp
    cases hp
  · refine .inr ⟨m, e, ⟨p.1, ?_, ?_, hm⟩, fun k hk hz => ?_⟩
    · rcases List.mem_append.mp hp with h | h
      · exact .inl (src_ok (R.n1 p h))
      · exact .inr (box_ok (R.n2 p h))
    · rcases List.mem_append.mp hp with h | h
      · exact R.nz1 p h
      · exact R.nz2 p h
    · obtain ⟨q, hq, rfl⟩ := kin k hk hz
      exact hle q hq
/-! ### == -/
def EqP (a b : SerM.Po × SerM.Po) : Prop := ∀ x, SerM.ev a.1 x * SerM.ev b.2 x = SerM.ev b.1 x * SerM.ev a.2 x
theorem EqP.z {a b : SerM.Po × SerM.Po} (fa : Frac a.1 a.2 uni) (fb : Frac b.1 b.2 uni) (h : EqP a b) : Zp a ↔ Zp b := by
  constructor
  · intro z x
    exact SerM.ev_cancel (p := a.2) (a := b.1) (b := []) (SerM.nz_of1 fa.q1) (fun y => by
      have := h y
      rw [z y] at this
      show _ = _ * 0
      grind) x
  · intro z x
    exact SerM.ev_cancel (p := b.2) (a := a.1) (b := []) (SerM.nz_of1 fb.q1) (fun y => by
      have := h y
      rw [z y] at this
      show _ = _ * 0
      grind) x
theorem keys_iff {k1 l1 : List (Key × V)} {v1 v2 : Vf} {S : Key → Prop} (f1 : ∀ k, Frac (v1 k).1 (v1 k).2 uni) (f2 : ∀ k, Frac (v2 k).1 (v2 k).2 uni) (ok1 : ∀ p ∈ k1, S p.1) (ok2 : ∀ p ∈ l1, S p.1) (nz1 : ∀ p ∈ k1, ¬ Zp (v1 p.1)) (nz2 : ∀ p ∈ l1, ¬ Zp (v2 p.1)) (z1 : ∀ k, S k → ¬ KeysIn k1 k → Zp (v1 k)) (z2 : ∀ k, S k → ¬ KeysIn l1 k → Zp (v2 k)) (eq : ∀ k, S k → EqP (v1 k) (v2 k)) : ∀ k, KeysIn k1 k ↔ KeysIn l1 k := fun k => by
  constructor
  · intro h
    obtain ⟨p, hp, rfl⟩ := List.mem_map.mp h
    exact Classical.byContradiction fun n => nz1 p hp (((eq _ (ok1 p hp)).z (f1 _) (f2 _)).mpr (z2 _ (ok1 p hp) n))
  · intro h
    obtain ⟨p, hp, rfl⟩ := List.mem_map.mp h
    exact Classical.byContradiction fun n => nz2 p hp (((eq _ (ok2 p hp)).z (f1 _) (f2 _)).mp (z1 _ (ok2 p hp) n))
end
end Un
namespace Un
open PySem L2 TL
section
variable {P : Program} {w : World} {K : PySem.W.Frag} {mg : Str → Option Value} {base : Heap}
/-! ### the law's sum; sizes of what the law makes -/
/-- the tuple t of two lists of numbers -/
def TopBot (H : Hp) (t : Addr) (p q : SerM.Po) : Prop := ∃ x y : Addr, H t = some (.tup [.ref x, .ref y]) ∧ H x = some (.lst (iv p)) ∧ H y = some (.lst (iv q))
theorem TopBot.same {H H' : Hp} {t : Addr} {p q : SerM.Po} (h : TopBot H t p q) (s : Same H H') : TopBot H' t p q := by
  obtain ⟨x, y, h1, h2, h3⟩ := h
  exact ⟨x, y, s _ _ h1, s _ _ h2, s _ _ h3⟩
theorem TopBot.kp {H H' : Hp} {t b c : Addr} {p q : SerM.Po} (h : TopBot H t p q) (B : Bag H b c) (k : Kp b H H') : TopBot H' t p q := by
  obtain ⟨x, y, h1, h2, h3⟩ := h
  exact ⟨x, y, k.tups B _ _ h1, k _ _ h2 (iv_bag B h2), k _ _ h3 (iv_bag B h3)⟩
structure Fc (p : SerM.Po) (n A : Nat) : Prop where
  l : p.length ≤ n
  c : ∀ i, (SerM.co p i).natAbs ≤ A
theorem Fc.times {p q : SerM.Po} {n k A B : Nat} (h : Fc p n A) (g : Fc q k B) : Fc (SerM.trim (SerM.mul p q)) (n + k) (n * (A * B)) :=
  ⟨trim_len_le fun i hi => SerM.mul_len0 _ _ _ (by have := h.l; have := g.l; omega), fun i => by
    rw [SerM.trim_co]
    exact Nat.le_trans (SerM.mul_bd g.c p h.c i) (Nat.mul_le_mul_right _ h.l)⟩
theorem Fc.sum {p q : SerM.Po} {n k A B : Nat} {t : Int} (h : Fc p n A) (g : Fc q k B) (ht : t.natAbs ≤ 1) : Fc (SerM.trim (SerM.add p (SerM.smul t q))) (max n k) (A + B) :=
  ⟨trim_len_le fun i hi => by
    rw [SerM.co_add, SerM.co_smul, SerM.co_len (p := p) (by have := h.l; omega), SerM.co_len (p := q) (by have := g.l; omega)]; omega, fun i => by
    rw [SerM.trim_co, SerM.co_add, SerM.co_smul]
    have h1 := h.c i
    have h2 := g.c i
    have h3 : (t * SerM.co q i).natAbs ≤ 1 * (SerM.co q i).natAbs := by rw [Int.natAbs_mul]; exact Nat.mul_le_mul_right _ ht
    omega⟩
theorem Fc.mono {p : SerM.Po} {n k A B : Nat} (h : Fc p n A) (a : n ≤ k) (b : A ≤ B) : Fc p k B := ⟨Nat.le_trans h.l a, fun i => Nat.le_trans (h.c i) b⟩
theorem Fc.frac {p q : SerM.Po} {n k A B : Nat} (h : Fc p n A) (g : Fc q k B) (h1 : SerM.ev q 0 = 1) (a : n ≤ 9) (b : A ≤ 1048576) (c : k ≤ 9) (d : B ≤ 1048576) : Frac p q uni :=
  ⟨Nat.le_trans h.l a, Nat.le_trans g.l c, fun i => Nat.le_trans (h.c i) b, fun i => Nat.le_trans (g.c i) d, h1⟩
theorem Fc.lt {p : SerM.Po} {n A c : Nat} (h : Fc p n A) (k : A < 2 ^ c) : ∀ i, (SerM.co p i).natAbs < 2 ^ c := lt_pow h.c k
theorem fc_one : Fc [1] 3 9 := ⟨by decide, fun i => by
  cases i with
  | zero => decide
  | succ i => rw [SerM.co_len (by show 1 ≤ i + 1; omega)]; decide⟩
theorem fc_nil : Fc [] 3 9 := ⟨by decide, fun i => by rw [SerM.co_nil]; decide⟩
theorem ev_one (x : Int) : SerM.ev [1] x = 1 := by show (1 : Int) + x * 0 = 1; omega
theorem ev_nil (x : Int) : SerM.ev [] x = 0 := rfl
/-- another fraction of the same value -/
theorem Val.to {H : Hp} {C a : Addr} {P Q P' Q' : SerM.Po} {z z' : Sz} (h : Val H C a P Q z) (F : Frac P' Q' z') (e : ∀ x, SerM.ev P x * SerM.ev Q' x = SerM.ev P' x * SerM.ev Q x) : Val H C a P' Q' z' := by
  obtain ⟨f, u, v, S, R⟩ := h
  exact ⟨F, u, v, S, SerM.red_of F.q1 f.q1 e R⟩
/-- drawn -/
structure D3 (p q : SerM.Po) : Prop where
  fp : Fc p 3 9
  fq : Fc q 3 9
  q1 : SerM.ev q 0 = 1
theorem D3.frac {p q : SerM.Po} (d : D3 p q) : Frac p q uni := d.fp.frac d.fq d.q1 (by decide) (by decide) (by decide) (by decide)
end
end Un
namespace Un
open PySem L2 TL
section
variable {P : Program} {w : World} {K : PySem.W.Frag} {mg : Str → Option Value} {base : Heap}
/-! ### tables of drawn quotients -/
theorem kv_s (zs : List Str) : (zs.map Sum.inr : List Key).map kV = zs.map V.str := by rw [List.map_map]; rfl
theorem kv_i (zs : List Int) : (zs.map Sum.inl : List Key).map kV = zs.map V.int := by rw [List.map_map]; rfl
/-- keys in ascending order -/
def SortK (ys : List Key) : Prop := (∃ zs : List Str, ys = zs.map Sum.inr ∧ PyProof.Rows.sortedS zs = true) ∨ ∃ zs : List Int, ys = zs.map Sum.inl ∧ zs.Pairwise (· ≤ ·)
def OneK (ks : List Key) : Prop := (∃ zs : List Str, ks = zs.map Sum.inr) ∨ ∃ zs : List Int, ks = zs.map Sum.inl
theorem call_sortedK {X : Cx} (hcalm : X.calm = true) : CallR X (.builtin "sorted") (fun xs H Q => ∃ (a : Addr) (kvs : List (Key × V)), xs = [.ref a] ∧ Rd H a (.dK kvs) ∧ OneK (kvs.map (·.1)) ∧ kvs.length < 64 ∧ ∀ (ys : List Key) (p : Addr), ys.Perm (kvs.map (·.1)) → SortK ys → H p = none → Q (.ref p) (upd H p (.lst (ys.map kV)))) := by
  intro pins s σ H xs us Q I r h
  obtain ⟨a, kvs, rfl, hr, ho, hl, q⟩ := h
  rcases ho with ⟨zs, e⟩ | ⟨zs, e⟩
  · have l1 := congrArg List.length e
    rw [List.length_map, List.length_map] at l1
    refine call_sortedD hcalm pins s σ H _ us Q I r ⟨a, kvs, zs, rfl, hr, e, by omega, fun ys p hp hs hn => ?_⟩
    have := q (ys.map Sum.inr) p (by rw [e]; exact hp.map _) (.inl ⟨ys, rfl, hs⟩) hn
    rw [kv_s] at this
    exact this
  · have l1 := congrArg List.length e
    rw [List.length_map, List.length_map] at l1
    refine call_sortedDI hcalm pins s σ H _ us Q I r ⟨a, kvs, zs, rfl, hr, e, by omega, fun ys p hp hs hn => ?_⟩
    have := q (ys.map Sum.inl) p (by rw [e]; exact hp.map _) (.inr ⟨ys, rfl, hs⟩) hn
    rw [kv_i] at this
    exact this
abbrev v0 : SerM.Po × SerM.Po := ([], [1])
theorem d3_0 : D3 [] [1] := ⟨fc_nil, fc_one, rfl⟩
theorem d3_of {p q : SerM.Po} (pl : p.length ≤ 3) (ql : q.length + 1 ≤ 3) (pc : ∀ i, ((SerM.co p i).natAbs : Int) ≤ 3) (qc : ∀ i, ((SerM.co (1 :: q) i).natAbs : Int) ≤ 3) : D3 p (1 :: q) :=
  ⟨⟨pl, fun i => by have := pc i; omega⟩, ⟨ql, fun i => by have := qc i; omega⟩, by show (1 : Int) + 0 * _ = 1; omega⟩
structure MTab (S : Key → Prop) (H : Hp) (d : Addr) (U : List Key) (kvs : List (Key × V)) (mv : Vf) : Prop where
  at_ : H d = some (.dK kvs)
  ent : ∀ p ∈ kvs, ∃ t, p.2 = .ref t ∧ TopBot H t (mv p.1).1 (mv p.1).2
  nd : (kvs.map (·.1)).Nodup
  sub : ∀ p ∈ kvs, p.1 ∈ U
  u : U.length ≤ 40
  ok : ∀ p ∈ kvs, S p.1
  df : ∀ k, ¬ KeysIn kvs k → mv k = v0
theorem MTab.l {S : Key → Prop} {H : Hp} {d : Addr} {U : List Key} {kvs : List (Key × V)} {mv : Vf} (h : MTab S H d U kvs mv) : kvs.length ≤ 40 := by
  have := len_sub h.nd fun k hk => by
    obtain ⟨p, hp, e⟩ := List.mem_map.mp hk
    rw [← e]; exact h.sub p hp
  rw [List.length_map] at this
  exact Nat.le_trans this h.u
theorem MTab.same {S : Key → Prop} {H H' : Hp} {d : Addr} {U : List Key} {kvs : List (Key × V)} {mv : Vf} (h : MTab S H d U kvs mv) (s : Same H H') : MTab S H' d U kvs mv :=
  ⟨s _ _ h.at_, fun p hp => by
    obtain ⟨t, e, h1⟩ := h.ent p hp
    exact ⟨t, e, h1.same s⟩, h.nd, h.sub, h.u, h.ok, h.df⟩
theorem bag_ne {H : Hp} {b c d : Addr} {kvs : List (Key × V)} (B : Bag H b c) (h : H d = some (.dK kvs)) : d ≠ b := fun e => by
  subst e
  obtain ⟨ns, p, r, s, k, B⟩ := B
  have := B.lb.symm.trans h
  cases this
theorem MTab.kp {S : Key → Prop} {H H' : Hp} {b c d : Addr} {U : List Key} {kvs : List (Key × V)} {mv : Vf} (h : MTab S H d U kvs mv) (B : Bag H b c) (k : Kp b H H') : MTab S H' d U kvs mv :=
  ⟨k _ _ h.at_ (bag_ne B h.at_), fun p hp => by
    obtain ⟨t, e, h1⟩ := h.ent p hp
    exact ⟨t, e, h1.kp B k⟩, h.nd, h.sub, h.u, h.ok, h.df⟩
theorem TopBot.up {H : Hp} {t d : Addr} {p q : SerM.Po} {o : HO} {kvs : List (Key × V)} (h : TopBot H t p q) (hd : H d = some (.dK kvs)) : TopBot (upd H d o) t p q := by
  obtain ⟨x, y, h1, h2, h3⟩ := h
  exact ⟨x, y, by rw [upd_ne (ne_of h1 hd (by intro z; cases z))]; exact h1, by rw [upd_ne (ne_of h2 hd (by intro z; cases z))]; exact h2, by rw [upd_ne (ne_of h3 hd (by intro z; cases z))]; exact h3⟩
/-- the value of one key exchanged -/
def setV (mv : Vf) (k : Key) (v : SerM.Po × SerM.Po) : Vf := fun j => if j = k then v else mv j
theorem setV_at {mv : Vf} {k : Key} {v : SerM.Po × SerM.Po} : setV mv k v k = v := if_pos rfl
theorem setV_ne {mv : Vf} {k j : Key} {v : SerM.Po × SerM.Po} (h : ¬ j = k) : setV mv k v j = mv j := if_neg h
theorem MTab.new {S : Key → Prop} {H : Hp} {d : Addr} {U : List Key} (h : H d = some (.dK [])) (u : U.length ≤ 40) : MTab S H d U [] (fun _ => v0) :=
  ⟨h, (fun p hp => nomatch hp), List.nodup_nil, (fun p hp => nomatch hp), u, (fun p hp => nomatch hp), fun _ _ => rfl⟩
theorem MTab.put {S : Key → Prop} {H : Hp} {d t : Addr} {U : List Key} {kvs : List (Key × V)} {mv : Vf} {k : Key} {v : SerM.Po × SerM.Po} (h : MTab S H d U kvs mv) (T : TopBot H t v.1 v.2) (hu : k ∈ U) (hS : S k) : MTab S (upd H d (.dK (putK kvs k (.ref t)))) d U (putK kvs k (.ref t)) (setV mv k v) := by
  refine ⟨upd_same, fun p hp => ?_, put_nd h.nd, fun p hp => ?_, h.u, fun p hp => ?_, fun j hj => ?_⟩
  · rcases put_mem hp with rfl | ⟨hp, ne⟩
    · refine ⟨t, rfl, ?_⟩
      rw [setV_at]
      exact T.up h.at_
    · obtain ⟨t', e, h1⟩ := h.ent p hp
      refine ⟨t', e, ?_⟩
      rw [setV_ne ne]
      exact h1.up h.at_
  · rcases put_mem hp with rfl | ⟨hp, ne⟩
    · exact hu
    · exact h.sub p hp
  · rcases put_mem hp with rfl | ⟨hp, ne⟩
    · exact hS
    · exact h.ok p hp
  · have : ¬ (KeysIn kvs j ∨ j = k) := fun hh => hj (put_in.mpr hh)
    rw [setV_ne fun e => this (.inr e)]
    exact h.df j fun hh => this (.inl hh)
theorem MTab.up {S : Key → Prop} {H : Hp} {d e : Addr} {U : List Key} {kvs ls : List (Key × V)} {mv : Vf} {o : HO} (h : MTab S H d U kvs mv) (he : H e = some (.dK ls)) (n : d ≠ e) : MTab S (upd H e o) d U kvs mv :=
  ⟨by rw [upd_ne n]; exact h.at_, fun p hp => by
    obtain ⟨t, e', h1⟩ := h.ent p hp
    exact ⟨t, e', h1.up he⟩, h.nd, h.sub, h.u, h.ok, h.df⟩
theorem MTab.get {S : Key → Prop} {H : Hp} {d : Addr} {U : List Key} {kvs : List (Key × V)} {mv : Vf} {k : Key} {v : V} (h : MTab S H d U kvs mv) (e : valV kvs k = some v) : ∃ t, v = .ref t ∧ TopBot H t (mv k).1 (mv k).2 := h.ent _ (valV_mem e)
/-! ### two dicts with drawn quotients -/
abbrev sLawQuot : Stmt := top 67
theorem scQuot : FnScope ["_law_bag_here", "_law_names_here", "_law_indexes", "_law_first", "_law_second", "_law_name_z", "_law_index_z"] ["_law_bag_here", "_law_names_here", "_law_indexes"] (defScope sLawQuot) := ⟨rfl, rfl, rfl, by decide +kernel, rfl, by decide +kernel, by decide +kernel⟩
def spQuot (K : PySem.W.Frag) : Sp := fun vs H Q _ => ∃ (b c l1 l2 : Addr) (ws : List Str) (is : List Int) (U : List Key), vs = [.ref b, .ref l1, .ref l2] ∧ Bag H b c ∧ l1 ≠ b ∧ l2 ≠ b ∧ SqL K H l1 (ws.map V.str) ∧ SqL K H l2 (is.map V.int) ∧ ws.length ≤ 30 ∧ is.length ≤ 30 ∧ (∀ z ∈ ws, IsNm z) ∧ (∀ i ∈ is, 0 ≤ i) ∧ (∀ z ∈ ws, Sum.inr z ∈ U) ∧ (∀ i ∈ is, Sum.inl i ∈ U) ∧ U.length ≤ 40 ∧
  ∀ (t d1 d2 : Addr) (k1 k2 : List (Key × V)) (m1 m2 : Vf) (H' : Hp), Bag H' b c → Kp b H H' → H t = none → H' t = some (.tup [.ref d1, .ref d2]) → MTab SrcOk H' d1 U k1 m1 → MTab BoxOk H' d2 U k2 m2 → (∀ k, D3 (m1 k).1 (m1 k).2) → (∀ k, D3 (m2 k).1 (m2 k).2) → Q (.ref t) H'
theorem Kp.put {b d : Addr} {H H1 : Hp} {o : HO} (k : Kp b H H1) (hd : H d = none) : Kp b H (upd H1 d o) := fun a u h n => by
  rw [upd_ne (ne_of_none h hd)]; exact k a u h n
theorem ok_quot {f g1 g2 : Addr} {fd e1 e2 : FuncData} (F : Fun K "_law_quotients" "_law_quotients" sLawQuot f fd) (GP : Df P w K mg base 1 g1 e1 "_law_pull" ["_law_bag_here", "_law_many"] spPull) (GPr : Df P w K mg base 3 g2 e2 "_law_pair" ["_law_bag_here", "_law_many", "_law_wide"] spPairL) : FnOk P w K mg base CX0 4 f fd ["_law_bag_here", "_law_names_here", "_law_indexes"] (spQuot K) := by
  refine F.ok scQuot (fun vs H Q E h => ?_) (fun cdv A outer s H vs Q E hr h => ?_)
  · obtain ⟨b, c, l1, l2, ws, is, U, rfl, _⟩ := h
    rfl
  obtain ⟨b, c, l1, l2, ws, is, U, rfl, B, n1, n2, L1, L2, wl, il, wn, ik, wu, iu, hu, q⟩ := h
  have hsz : 1000000 < sizeLine := by decide
  refine ⟨_, (pss_cons (ps_par (i := 3) (j := 4) rfl scQuot.nd rfl rfl (by decide) rfl rfl (pa_cons pe_dnewK (pa_cons pe_dnewK pa_nil)) (by rfl))
 (pss_cons (ps_for PassesOwn.never rfl (pi_list (pv 1)) (pg_name (i := 5) scQuot.nd rfl (by first | exact Or.inl rfl | exact Or.inr rfl))
 (pss_one (ps_if (pt_cmpR op_gt (pe_call GP.ok (hr.mono (by decide)) (by rfl) GP.m GP.kp GP.b .nil pass0 (pa_cons (pv 0) (pa_cons pe_int pa_nil))) pe_int (nomark _))
 (pss_one (ps_dput (hu_of hr) (pv 3) (pv 5) (pe_call GPr.ok (hr.mono (by decide)) (by rfl) GPr.m GPr.kp GPr.b .nil pass0 (pa_cons (pv 0) (pa_cons pe_int (pa_cons pe_int pa_nil)))) rfl))
 pss_nil)))
 (pss_cons (ps_for PassesOwn.never rfl (pi_list (pv 2)) (pg_name (i := 6) scQuot.nd rfl (by first | exact Or.inl rfl | exact Or.inr rfl))
 (pss_one (ps_if (pt_cmpR op_gt (pe_call GP.ok (hr.mono (by decide)) (by rfl) GP.m GP.kp GP.b .nil pass0 (pa_cons (pv 0) (pa_cons pe_int pa_nil))) pe_int (nomark _))
 (pss_one (ps_dput (hu_of hr) (pv 4) (pv 6) (pe_call GPr.ok (hr.mono (by decide)) (by rfl) GPr.m GPr.kp GPr.b .nil pass0 (pa_cons (pv 0) (pa_cons pe_int (pa_cons pe_int pa_nil)))) rfl))
 pss_nil)))
 (pss_one (ps_ret (pe_tup (pa_cons (pv 3) (pa_cons (pv 4) pa_nil)))))))), ?_⟩
  intro d1 hd1 d2 hd2
  have s1 := same_upd hd1 (.dK [])
  have ne12 : d1 ≠ d2 := fun e => by rw [← e, upd_same] at hd2; cases hd2
  have hd2H : H d2 = none := s1.free hd2
  have b1 := B.ne_new hd1
  have b2 := B.ne_new hd2H
  have s2 := s1.trans (same_upd hd2 (.dK []))
  have B2 := B.same s2
  have M1 : MTab SrcOk (upd (upd H d1 (.dK [])) d2 (.dK [])) d1 U [] (fun _ => v0) := MTab.new (by rw [upd_ne ne12]; exact upd_same) hu
  have M2 : MTab BoxOk (upd (upd H d1 (.dK [])) d2 (.dK [])) d2 U [] (fun _ => v0) := MTab.new upd_same hu
  have K2 : Kp b H (upd (upd H d1 (.dK [])) d2 (.dK [])) := Same.kp s2
  generalize upd (upd H d1 (.dK [])) d2 (.dK []) = H2 at s2 B2 K2 M1 M2 ⊢
  refine ⟨_, _, rfl, ?_⟩
  refine ⟨_, rfl, l1, rfl, ⟨_, K2.seqL n1 L1⟩, for_list (K := K) (a := l1) (xs := ws.map V.str) (fun i σ' H3 => ∃ pv k1 m1, σ' = [some (.ref b), some (.ref l1), some (.ref l2), some (.ref d1), some (.ref d2), pv, none] ∧ Bag H3 b c ∧ Kp b H H3 ∧ MTab SrcOk H3 d1 U k1 m1 ∧ MTab BoxOk H3 d2 U [] (fun _ => v0) ∧ ∀ k, D3 (m1 k).1 (m1 k).2)
    ⟨none, [], _, rfl, B2, K2, M1, M2, fun _ => d3_0⟩ (fun i σ' H3 _ h => by obtain ⟨_, _, _, _, _, k, _⟩ := h; exact k.seqL n1 L1) ?_ ?_⟩
  · rintro i x σ' H3 hx ⟨pv, k1, m1, rfl, B3, K3, N1, N2, hD⟩
    rw [List.getElem?_map] at hx
    obtain ⟨z, hz, rfl⟩ := Option.map_eq_some_iff.mp hx
    have hmem := List.mem_of_getElem? hz
    refine ⟨_, rfl, b, c, 3, rfl, B3, by decide, by decide, fun e H4 e0 e1 B4 k4 => ?_⟩
    refine ⟨e, 0, rfl, rfl, _, rfl, ?_⟩
    have N1 := N1.kp B3 k4
    have N2 := N2.kp B3 k4
    have K4 := K3.trans k4
    by_cases he : 0 < e
    · rw [decide_eq_true he]
      refine iteT ?_
      refine ⟨_, rfl, b, c, 3, 3, rfl, B4, by decide, by decide, by decide, by decide, fun t tx ty p q' H5 B5 k5 ht htx hty h5t h5x h5y pl ql pc qc => ?_⟩
      have N1 := N1.kp B4 k5
      have N2 := N2.kp B4 k5
      have K5 := K4.trans k5
      have T : TopBot H5 t p (1 :: q') := ⟨tx, ty, h5t, h5x, h5y⟩
      have l1' := N1.l
      refine ⟨_, rfl, _, rfl, d1, _, rfl, DPut.k (k := Sum.inr z) N1.at_ (by omega), ?_⟩
      refine ⟨_, _, _, rfl, B5.wr b1 _, K5.wr hd1 _, N1.put (v := (p, 1 :: q')) T (wu z hmem) ⟨z, rfl, wn z hmem⟩, N2.up N1.at_ ne12.symm, fun k => ?_⟩
      by_cases ek : k = Sum.inr z
      · rw [ek, setV_at]
        exact d3_of (by omega) (by omega) pc qc
      · rw [setV_ne ek]; exact hD k
    · rw [decide_eq_false he]
      refine iteF ?_
      exact ⟨_, _, _, rfl, B4, K4, N1, N2, hD⟩
  rintro σ' H3 ⟨pv, k1, m1, rfl, B3, K3, N1, N2, hD1⟩
  refine ⟨_, rfl, l2, rfl, ⟨_, K3.seqL n2 L2⟩, for_list (K := K) (a := l2) (xs := is.map V.int) (fun i σ' H4 => ∃ pw k2 m2, σ' = [some (.ref b), some (.ref l1), some (.ref l2), some (.ref d1), some (.ref d2), pv, pw] ∧ Bag H4 b c ∧ Kp b H H4 ∧ MTab SrcOk H4 d1 U k1 m1 ∧ MTab BoxOk H4 d2 U k2 m2 ∧ ∀ k, D3 (m2 k).1 (m2 k).2)
    ⟨none, [], _, rfl, B3, K3, N1, N2, fun _ => d3_0⟩ (fun i σ' H3 _ h => by obtain ⟨_, _, _, _, _, k, _⟩ := h; exact k.seqL n2 L2) ?_ ?_⟩
  · rintro i x σ' H4 hx ⟨pw, k2, m2, rfl, B4, K4, N1, N2, hD⟩
    rw [List.getElem?_map] at hx
    obtain ⟨z, hz, rfl⟩ := Option.map_eq_some_iff.mp hx
    have hmem := List.mem_of_getElem? hz
    refine ⟨_, rfl, b, c, 3, rfl, B4, by decide, by decide, fun e H5 e0 e1 B5 k5 => ?_⟩
    refine ⟨e, 0, rfl, rfl, _, rfl, ?_⟩
    have N1 := N1.kp B4 k5
    have N2 := N2.kp B4 k5
    have K5 := K4.trans k5
    by_cases he : 0 < e
    · rw [decide_eq_true he]
      refine iteT ?_
      refine ⟨_, rfl, b, c, 3, 3, rfl, B5, by decide, by decide, by decide, by decide, fun t tx ty p q' H6 B6 k6 ht htx hty h5t h5x h5y pl ql pc qc => ?_⟩
      have N1 := N1.kp B5 k6
      have N2 := N2.kp B5 k6
      have K6 := K5.trans k6
      have T : TopBot H6 t p (1 :: q') := ⟨tx, ty, h5t, h5x, h5y⟩
      have l1' := N2.l
      refine ⟨_, rfl, _, rfl, d2, _, rfl, DPut.k (k := Sum.inl z) N2.at_ (by omega), ?_⟩
      refine ⟨_, _, _, rfl, B6.wr b2 _, K6.wr hd2H _, N1.up N2.at_ ne12, N2.put (v := (p, 1 :: q')) T (iu z hmem) ⟨z, rfl, ik z hmem⟩, fun k => ?_⟩
      by_cases ek : k = Sum.inl z
      · rw [ek, setV_at]
        exact d3_of (by omega) (by omega) pc qc
      · rw [setV_ne ek]; exact hD k
    · rw [decide_eq_false he]
      refine iteF ?_
      exact ⟨_, _, _, rfl, B5, K5, N1, N2, hD⟩
  rintro σ' H4 ⟨pw, k2, m2, rfl, B4, K4, N1, N2, hD2⟩
  refine ⟨_, rfl, _, rfl, (by show 2 ≤ sizeLine; decide), fun t ht => ?_⟩
  have s5 := same_upd ht (.tup [V.ref d1, V.ref d2])
  exact q t d1 d2 k1 k2 m1 m2 _ (B4.same s5) (K4.trans (Same.kp s5)) (K4.free B4 ht) upd_same (N1.same s5) (N2.same s5) hD1 hD2
end
end Un
namespace Un
open PySem L2 TL
section
variable {P : Program} {w : World} {K : PySem.W.Frag} {mg : Str → Option Value} {base : Heap}
/-! ### the form of a table -/
abbrev sLawLeaf : Stmt := top 66
def joinV (m1 m2 : Vf) : Vf
  | .inr z => m1 (.inr z)
  | .inl i => m2 (.inl i)
theorem join_s {m1 m2 : Vf} {k : Key} (h : SrcK k) : joinV m1 m2 k = m1 k := by obtain ⟨z, rfl⟩ := h; rfl
theorem join_b {m1 m2 : Vf} {k : Key} (h : BoxK k) : joinV m1 m2 k = m2 k := by obtain ⟨z, rfl⟩ := h; rfl
theorem src_or (k : Key) : SrcK k ∨ BoxK k := by
  cases k with
  | inl i => exact .inr ⟨i, rfl⟩
  | inr z => exact .inl ⟨z, rfl⟩
theorem join_all {P : SerM.Po × SerM.Po → Prop} {m1 m2 : Vf} (h1 : ∀ k, P (m1 k)) (h2 : ∀ k, P (m2 k)) (k : Key) : P (joinV m1 m2 k) := by
  rcases src_or k with h | h
  · rw [join_s h]; exact h1 k
  · rw [join_b h]; exact h2 k
theorem scLeaf : FnScope ["_law_pairs", "_law_boxes_z", "_law_first", "_law_second", "_law_name_z", "_law_index_z"] ["_law_pairs", "_law_boxes_z"] (defScope sLawLeaf) := ⟨rfl, rfl, rfl, by decide +kernel, rfl, by decide +kernel, by decide +kernel⟩
/-- a dict of series that grows -/
structure Acc (H : Hp) (C m : Addr) (ks : List Key) (acc : List (Key × V)) (mv : Vf) : Prop where
  at_ : H m = some (.dK acc)
  keys : acc.map (·.1) = ks
  ser : ∀ p ∈ acc, ∃ b, p.2 = .ref b ∧ ValU H C b (mv p.1).1 (mv p.1).2
theorem Acc.same {H H' : Hp} {C m : Addr} {ks : List Key} {acc : List (Key × V)} {mv : Vf} (h : Acc H C m ks acc mv) (s : Same H H') : Acc H' C m ks acc mv :=
  ⟨s _ _ h.at_, h.keys, fun p hp => by
    obtain ⟨b, e, h1⟩ := h.ser p hp
    exact ⟨b, e, h1.same s⟩⟩
theorem Acc.up {H : Hp} {C m e : Addr} {ks : List Key} {acc ls : List (Key × V)} {mv : Vf} {o : HO} (h : Acc H C m ks acc mv) (he : H e = some (.dK ls)) (n : m ≠ e) : Acc (upd H e o) C m ks acc mv :=
  ⟨by rw [upd_ne n]; exact h.at_, h.keys, fun p hp => by
    obtain ⟨b, e', h1⟩ := h.ser p hp
    exact ⟨b, e', h1.up he noSer_dK⟩⟩
theorem not_val {ks : List Key} {acc : List (Key × V)} {k : Key} (e : acc.map (·.1) = ks) (h : k ∉ ks) : valV acc k = none := by
  cases e1 : valV acc k with
  | none => rfl
  | some v =>
    have h1 : k ∈ acc.map (·.1) := valV_in e1
    rw [e] at h1
    exact absurd h1 h
theorem Acc.put {H : Hp} {C m b : Addr} {ks : List Key} {acc : List (Key × V)} {mv : Vf} {k : Key} (h : Acc H C m ks acc mv) (n : k ∉ ks) (hv : ValU H C b (mv k).1 (mv k).2) : Acc (upd H m (.dK (putK acc k (.ref b)))) C m (ks ++ [k]) (acc ++ [(k, .ref b)]) mv := by
  refine ⟨by rw [upd_same, putK_new _ (not_val h.keys n)], by rw [List.map_append, h.keys]; rfl, fun p hp => ?_⟩
  rcases List.mem_append.mp hp with hp | hp
  · obtain ⟨b', e, h1⟩ := h.ser p hp
    exact ⟨b', e, h1.up h.at_ noSer_dK⟩
  · obtain rfl := List.mem_singleton.mp hp
    exact ⟨b, rfl, hv.up h.at_ noSer_dK⟩
theorem take_next {ys : List Key} {i : Nat} {k : Key} (nd : ys.Nodup) (h : ys[i]? = some k) : k ∉ ys.take i := fun hk => by
  obtain ⟨j, hj⟩ := List.getElem?_of_mem hk
  rw [List.getElem?_take] at hj
  split at hj
  · rename_i hji
    have := (List.pairwise_iff_getElem.mp nd) j i (List.getElem?_eq_some_iff.mp hj).1 (List.getElem?_eq_some_iff.mp h).1 hji
    rw [(List.getElem?_eq_some_iff.mp hj).2, (List.getElem?_eq_some_iff.mp h).2] at this
    exact absurd rfl this
  · cases hj
theorem take_snoc {ys : List Key} {i : Nat} {k : Key} (h : ys[i]? = some k) : ys.take (i + 1) = ys.take i ++ [k] := by rw [List.take_add_one, h]; rfl
theorem val_of_key {S : Key → Prop} {H : Hp} {d : Addr} {U : List Key} {kvs : List (Key × V)} {mv : Vf} {k : Key} (h : MTab S H d U kvs mv) (hk : k ∈ kvs.map (·.1)) : ∃ t, valV kvs k = some (.ref t) ∧ TopBot H t (mv k).1 (mv k).2 := by
  obtain ⟨p, hp, rfl⟩ := List.mem_map.mp hk
  obtain ⟨t, e, T⟩ := h.ent p hp
  exact ⟨t, by rw [← e]; exact val_nodup h.nd p hp, T⟩
theorem onek_s {kvs : List (Key × V)} (h : ∀ p ∈ kvs, SrcOk p.1) : OneK (kvs.map (·.1)) := by
  obtain ⟨zs, e⟩ := names_of h
  exact .inl ⟨zs, e⟩
theorem onek_b {kvs : List (Key × V)} (h : ∀ p ∈ kvs, BoxOk p.1) : OneK (kvs.map (·.1)) := by
  obtain ⟨zs, e⟩ := nums_of h
  exact .inr ⟨zs, e⟩
def spLeaf (C CF : Addr) : Sp := fun vs H Q _ => ∃ (d1 d2 : Addr) (U : List Key) (k1 k2 : List (Key × V)) (m1 m2 : Vf), vs = [.ref d1, .ref d2] ∧ MTab SrcOk H d1 U k1 m1 ∧ MTab BoxOk H d2 U k2 m2 ∧ (∀ k, Frac (m1 k).1 (m1 k).2 uni) ∧ (∀ k, Frac (m2 k).1 (m2 k).2 uni) ∧ ∀ c H', Same H H' → FormN H H' C CF c U (joinV m1 m2) → Q (.ref c) H'
theorem ok_leaf {f C CF fI fF : Addr} {fd dI dF : FuncData} {d : V} {dv : List Value} (F : Fun K "_law_leaf_form" "_law_leaf_form" sLawLeaf f fd) (MS : MakS P w K mg base C fI dI d dv) (MF : MakF P w K mg base C CF fF dF) (msorted : mg "sorted" = none) : FnOk P w K mg base CX0 7 f fd ["_law_pairs", "_law_boxes_z"] (spLeaf C CF) := by
  refine F.ok scLeaf (fun vs H Q E h => ?_) (fun cdv A outer s H vs Q E hr h => ?_)
  · obtain ⟨d1, d2, U, k1, k2, m1, m2, rfl, _⟩ := h
    rfl
  obtain ⟨d1, d2, U, k1, k2, m1, m2, rfl, M1, M2, fr1, fr2, q⟩ := h
  have hsz : 1000000 < sizeLine := by decide
  have l1 := M1.l
  have l2 := M2.l
  refine ⟨_, (pss_cons (ps_par (i := 2) (j := 3) rfl scLeaf.nd rfl rfl (by decide) rfl rfl (pa_cons pe_dnewK (pa_cons pe_dnewK pa_nil)) (by rfl))
 (pss_cons (ps_for PassesOwn.never rfl (pi_list (pe_callB (call_sortedK rfl) (by rfl) msorted (by decide +kernel) (pa_cons (pv 0) pa_nil))) (pg_name (i := 4) scLeaf.nd rfl (by first | exact Or.inl rfl | exact Or.inr rfl))
 (pss_one (ps_dput (hu_of hr) (pv 2) (pv 4) (pe_make MS.mkS MS.ok (hr.mono (by decide)) (by rfl) MS.m MS.b2 .nil pass0 (pa_cons (pe_ix ix_tup (pe_dget (hu_of hr) (pv 0) (pv 4) (fun _ _ => rfl)) pe_int (fun _ _ => rfl)) (pa_cons (pe_ix ix_tup (pe_dget (hu_of hr) (pv 0) (pv 4) (fun _ _ => rfl)) pe_int (fun _ _ => rfl)) pa_nil))) rfl)))
 (pss_cons (ps_for PassesOwn.never rfl (pi_list (pe_callB (call_sortedK rfl) (by rfl) msorted (by decide +kernel) (pa_cons (pv 1) pa_nil))) (pg_name (i := 5) scLeaf.nd rfl (by first | exact Or.inl rfl | exact Or.inr rfl))
 (pss_one (ps_dput (hu_of hr) (pv 3) (pv 5) (pe_make MS.mkS MS.ok (hr.mono (by decide)) (by rfl) MS.m MS.b2 .nil pass0 (pa_cons (pe_ix ix_tup (pe_dget (hu_of hr) (pv 1) (pv 5) (fun _ _ => rfl)) pe_int (fun _ _ => rfl)) (pa_cons (pe_ix ix_tup (pe_dget (hu_of hr) (pv 1) (pv 5) (fun _ _ => rfl)) pe_int (fun _ _ => rfl)) pa_nil))) rfl)))
 (pss_one (ps_ret (pe_make MF.mkF MF.ok (hr.mono (by decide)) (by rfl) MF.m MF.b2 .nil pass0 (pa_cons (pv 2) (pa_cons (pv 3) pa_nil)))))))), ?_⟩
  intro f1 hf1 f2 hf2
  have s1 := same_upd hf1 (.dK [])
  have ne12 : f1 ≠ f2 := fun e => by rw [← e, upd_same] at hf2; cases hf2
  have hf2H : H f2 = none := s1.free hf2
  have s2 := s1.trans (same_upd hf2 (.dK []))
  have A1 : Acc (upd (upd H f1 (.dK [])) f2 (.dK [])) C f1 [] [] m1 := ⟨by rw [upd_ne ne12]; exact upd_same, rfl, fun p hp => nomatch hp⟩
  have A2 : Acc (upd (upd H f1 (.dK [])) f2 (.dK [])) C f2 [] [] m2 := ⟨upd_same, rfl, fun p hp => nomatch hp⟩
  generalize upd (upd H f1 (.dK [])) f2 (.dK []) = H2 at s2 A1 A2 ⊢
  refine ⟨_, _, rfl, ?_⟩
  -- the sources
  refine ⟨_, rfl, d1, k1, rfl, .inl (s2 _ _ M1.at_), onek_s M1.ok, by omega, fun ys l hp hs hl => ?_⟩
  have s3 := s2.trans (same_upd hl (.lst (ys.map kV)))
  have gl : upd H2 l (.lst (ys.map kV)) l = some (.lst (ys.map kV)) := upd_same
  have A1 := A1.same (same_upd hl (.lst (ys.map kV)))
  have A2 := A2.same (same_upd hl (.lst (ys.map kV)))
  generalize upd H2 l (.lst (ys.map kV)) = H3 at s3 gl A1 A2 ⊢
  have nl : l ≠ f1 ∧ l ≠ f2 := ⟨fun e => (by rw [e, A1.at_] at gl; cases gl), fun e => (by rw [e, A2.at_] at gl; cases gl)⟩
  have ndy : ys.Nodup := hp.nodup_iff.mpr M1.nd
  refine ⟨l, rfl, ⟨_, SqL.of gl⟩, for_list (K := K) (a := l) (xs := ys.map kV) (fun i σ' H4 => ∃ pv acc, σ' = [some (.ref d1), some (.ref d2), some (.ref f1), some (.ref f2), pv, none] ∧ Same H H4 ∧ H4 l = some (.lst (ys.map kV)) ∧ Acc H4 C f1 (ys.take i) acc m1 ∧ Acc H4 C f2 [] [] m2)
    ⟨none, [], rfl, s3, gl, A1, A2⟩ (fun i σ' H4 _ h => by obtain ⟨_, _, _, _, g, _⟩ := h; exact SqL.of g) ?_ ?_⟩
  · rintro i x σ' H4 hx ⟨pv, acc, rfl, s4, g4, A1, A2⟩
    rw [List.getElem?_map] at hx
    obtain ⟨k, hk, rfl⟩ := Option.map_eq_some_iff.mp hx
    have hmem : k ∈ k1.map (·.1) := hp.mem_iff.mp (List.mem_of_getElem? hk)
    obtain ⟨t, ev, _⟩ := val_of_key M1 hmem
    obtain ⟨t', ev', ⟨x, y, ht, hx, hy⟩⟩ := val_of_key (M1.same s4) hmem
    have gk : DGet H4 d1 (kV k) (some (.ref t')) := by rw [← ev']; exact DGet.k (s4 _ _ M1.at_)
    have Fk := fr1 k
    refine ⟨_, rfl, _, rfl, d1, _, rfl, gk, t', _, _, _, rfl, rfl, SqT.of ht, rfl, ?_⟩
    refine ⟨_, rfl, _, rfl, d1, _, rfl, gk, t', _, _, _, rfl, rfl, SqT.of ht, rfl, ?_⟩
    intro sa sd hsa hsd sne
    refine ser_madeV (C := C) hsa hsd sne (RowV.lst hx) (RowV.lst hy) Fk fit1U.a Fk.pl Fk.ql Fk.pc Fk.qc Fk.q1 (fun _ => rfl) fun H5 s5 V' => ?_
    have A1 := A1.same s5
    have A2 := A2.same s5
    have la : acc.length ≤ 40 := by
      have := congrArg List.length A1.keys
      have h2 := hp.length_eq
      rw [List.length_map, List.length_take] at this
      rw [List.length_map] at h2
      omega
    refine ⟨_, rfl, _, rfl, f1, _, rfl, DPut.k A1.at_ (by omega), ?_⟩
    refine ⟨_, _, rfl, fun b o e => ?_, by rw [upd_ne nl.1]; exact s5 _ _ g4, by rw [take_snoc hk]; exact A1.put (take_next ndy hk) V', A2.up A1.at_ ne12.symm⟩
    rw [upd_ne (ne_of_none e hf1)]
    exact s5 _ _ (s4 _ _ e)
  rintro σ' H4 ⟨pv, acc1, rfl, s4, g4, A1, A2⟩
  have e1 : acc1.map (·.1) = ys := by
    have := A1.keys
    rw [List.length_map, List.take_of_length_le (Nat.le_refl _)] at this
    exact this
  have A1 : Acc H4 C f1 ys acc1 m1 := ⟨A1.at_, e1, A1.ser⟩
  -- the boxes
  refine ⟨_, rfl, d2, k2, rfl, .inl (s4 _ _ M2.at_), onek_b M2.ok, by omega, fun zs l2 hp2 hs2 hl2 => ?_⟩
  have s5 := s4.trans (same_upd hl2 (.lst (zs.map kV)))
  have gl2 : upd H4 l2 (.lst (zs.map kV)) l2 = some (.lst (zs.map kV)) := upd_same
  have A1 := A1.same (same_upd hl2 (.lst (zs.map kV)))
  have A2 := A2.same (same_upd hl2 (.lst (zs.map kV)))
  generalize upd H4 l2 (.lst (zs.map kV)) = H5 at s5 gl2 A1 A2 ⊢
  have nl2 : l2 ≠ f1 ∧ l2 ≠ f2 := ⟨fun e => (by rw [e, A1.at_] at gl2; cases gl2), fun e => (by rw [e, A2.at_] at gl2; cases gl2)⟩
  have ndz : zs.Nodup := hp2.nodup_iff.mpr M2.nd
  refine ⟨l2, rfl, ⟨_, SqL.of gl2⟩, for_list (K := K) (a := l2) (xs := zs.map kV) (fun i σ' H6 => ∃ pw acc, σ' = [some (.ref d1), some (.ref d2), some (.ref f1), some (.ref f2), pv, pw] ∧ Same H H6 ∧ H6 l2 = some (.lst (zs.map kV)) ∧ Acc H6 C f1 ys acc1 m1 ∧ Acc H6 C f2 (zs.take i) acc m2)
    ⟨none, [], rfl, s5, gl2, A1, A2⟩ (fun i σ' H6 _ h => by obtain ⟨_, _, _, _, g, _⟩ := h; exact SqL.of g) ?_ ?_⟩
  · rintro i x σ' H6 hx ⟨pw, acc, rfl, s6, g6, A1, A2⟩
    rw [List.getElem?_map] at hx
    obtain ⟨k, hk, rfl⟩ := Option.map_eq_some_iff.mp hx
    have hmem : k ∈ k2.map (·.1) := hp2.mem_iff.mp (List.mem_of_getElem? hk)
    obtain ⟨t', ev', ⟨x, y, ht, hx, hy⟩⟩ := val_of_key (M2.same s6) hmem
    have gk : DGet H6 d2 (kV k) (some (.ref t')) := by rw [← ev']; exact DGet.k (s6 _ _ M2.at_)
    have Fk := fr2 k
    refine ⟨_, rfl, _, rfl, d2, _, rfl, gk, t', _, _, _, rfl, rfl, SqT.of ht, rfl, ?_⟩
    refine ⟨_, rfl, _, rfl, d2, _, rfl, gk, t', _, _, _, rfl, rfl, SqT.of ht, rfl, ?_⟩
    intro sa sd hsa hsd sne
    refine ser_madeV (C := C) hsa hsd sne (RowV.lst hx) (RowV.lst hy) Fk fit1U.a Fk.pl Fk.ql Fk.pc Fk.qc Fk.q1 (fun _ => rfl) fun H7 s7 V' => ?_
    have A1 := A1.same s7
    have A2 := A2.same s7
    have la : acc.length ≤ 40 := by
      have := congrArg List.length A2.keys
      have h2 := hp2.length_eq
      rw [List.length_map, List.length_take] at this
      rw [List.length_map] at h2
      omega
    refine ⟨_, rfl, _, rfl, f2, _, rfl, DPut.k A2.at_ (by omega), ?_⟩
    refine ⟨_, _, rfl, fun b o e => ?_, by rw [upd_ne nl2.2]; exact s7 _ _ g6, A1.up A2.at_ ne12, by rw [take_snoc hk]; exact A2.put (take_next ndz hk) V'⟩
    rw [upd_ne (ne_of_none e hf2H)]
    exact s7 _ _ (s6 _ _ e)
  rintro σ' H6 ⟨pw, acc2, rfl, s6, g6, A1, A2⟩
  have e2 : acc2.map (·.1) = zs := by
    have := A2.keys
    rw [List.length_map, List.take_of_length_le (Nat.le_refl _)] at this
    exact this
  have in1 : ∀ k, KeysIn acc1 k ↔ KeysIn k1 k := fun k => by unfold KeysIn; rw [e1]; exact hp.mem_iff
  have in2 : ∀ k, KeysIn acc2 k ↔ KeysIn k2 k := fun k => by unfold KeysIn; rw [e2]; exact hp2.mem_iff
  have ok1 : ∀ p ∈ acc1, SrcOk p.1 ∧ p.1 ∈ U := fun p hpp => by
    obtain ⟨r, hr', e⟩ := List.mem_map.mp ((in1 p.1).mp (List.mem_map.mpr ⟨p, hpp, rfl⟩))
    rw [← e]; exact ⟨M1.ok r hr', M1.sub r hr'⟩
  have ok2 : ∀ p ∈ acc2, BoxOk p.1 ∧ p.1 ∈ U := fun p hpp => by
    obtain ⟨r, hr', e⟩ := List.mem_map.mp ((in2 p.1).mp (List.mem_map.mpr ⟨p, hpp, rfl⟩))
    rw [← e]; exact ⟨M2.ok r hr', M2.sub r hr'⟩
  have T1 : TVal H6 C f1 U acc1 (joinV m1 m2) := ⟨A1.at_, fun p hpp => by
    rw [join_s (src_ok (ok1 p hpp).1)]; exact A1.ser p hpp, by rw [e1]; exact ndy, fun p hpp => (ok1 p hpp).2, M1.u⟩
  have T2 : TVal H6 C f2 U acc2 (joinV m1 m2) := ⟨A2.at_, fun p hpp => by
    rw [join_b (box_ok (ok2 p hpp).1)]; exact A2.ser p hpp, by rw [e2]; exact ndz, fun p hpp => (ok2 p hpp).2, M1.u⟩
  have z0 : Zp v0 := fun _ => rfl
  refine ⟨_, rfl, _, rfl, ?_⟩
  intro c dc hc hdc ne
  refine form_made hc hdc ne ⟨.inr ⟨f1, rfl, T1, fun p hpp => (ok1 p hpp).1⟩, .inr ⟨f2, rfl, T2, fun p hpp => (ok2 p hpp).1⟩, fun k hk hn => ?_, fun k hk hn => ?_, join_all (P := fun v => Frac v.1 v.2 uni) fr1 fr2, M1.u⟩ fun H' s' V' => q c H' (s6.trans s') (V'.old s6)
  · rw [join_s hk, M1.df k fun h => hn ((in1 k).mpr h)]; exact z0
  · rw [join_b hk, M2.df k fun h => hn ((in2 k).mpr h)]; exact z0
end
end Un
namespace Un
open PySem L2 TL
section
variable {P : Program} {w : World} {K : PySem.W.Frag} {mg : Str → Option Value} {base : Heap}
/-! ### what the law makes of the tables -/
abbrev sLawLeafSo : Stmt := top 68
theorem rd_get {S : Key → Prop} {td ty : TE} {σ : L2.St} {H1 : Hp} {d : Addr} {U : List Key} {kvs : List (Key × V)} {m : Vf} {k : Key} {Q : VK} (M : MTab S H1 d U kvs m) (htd : ∀ R, R (.ref d) H1 → td σ H1 R) (hty : ∀ R, R (kV k) H1 → ty σ H1 R) (q : ∀ t H2, Same H1 H2 → TopBot H2 t (m k).1 (m k).2 → Q (.ref t) H2) :
    tDGet2 td ty (tTup (tCons (tLst tNil) (tCons (tLst (tCons (tC (.int 1)) tNil)) tNil))) σ H1 Q := by
  refine htd _ ⟨d, rfl, .inl ⟨kvs, .inl M.at_⟩, hty _ ?_⟩
  refine ⟨(by show 0 ≤ sizeLine; decide), fun x hx => ?_⟩
  have s1 := same_upd hx (.lst [])
  have g1 : upd H1 x (.lst []) x = some (.lst (iv [])) := upd_same
  generalize upd H1 x (.lst []) = H2 at s1 g1 ⊢
  refine ⟨(by show 1 ≤ sizeLine; decide), fun y hy => ?_⟩
  have s2 := s1.trans (same_upd hy (.lst [V.int 1]))
  have g1 := same_upd hy (.lst [V.int 1]) _ _ g1
  have g2 : upd H2 y (.lst [V.int 1]) y = some (.lst (iv [1])) := upd_same
  generalize upd H2 y (.lst [V.int 1]) = H3 at s2 g1 g2 ⊢
  refine ⟨(by show 2 ≤ sizeLine; decide), fun t ht => ?_⟩
  have s3 := s2.trans (same_upd ht (.tup [V.ref x, V.ref y]))
  have g1 := same_upd ht (.tup [V.ref x, V.ref y]) _ _ g1
  have g2 := same_upd ht (.tup [V.ref x, V.ref y]) _ _ g2
  have g3 : upd H3 t (.tup [V.ref x, V.ref y]) t = some (.tup [V.ref x, V.ref y]) := upd_same
  generalize upd H3 t (.tup [V.ref x, V.ref y]) = H4 at s3 g1 g2 g3 ⊢
  have M' := M.same s3
  refine ⟨valV kvs k, DGet.k M'.at_, ?_⟩
  cases e : valV kvs k with
  | none =>
    refine q t H4 s3 ?_
    rw [M.df k (valV_none e)]
    exact ⟨x, y, g3, g1, g2⟩
  | some v =>
    obtain ⟨t', rfl, T⟩ := M'.get e
    exact q t' H4 s3 T
end
end Un
namespace Un
open PySem L2 TL
section
variable {P : Program} {w : World} {K : PySem.W.Frag} {mg : Str → Option Value} {base : Heap}
/-! ### whether a form has just these quotients -/
theorem op_neIK {X : Cx} {K : PySem.W.Frag} (h : X.K = K) (hu : X.A.units + 64 < cLine) : OpR X (compareOp .NotEq) (rNeI K) := h ▸ op_neI hu
theorem ixTK {X : Cx} {K : PySem.W.Frag} (h : X.K = K) : IxR X (rIxT K) := h ▸ ix_tup
section
open PySem.Spec PyProof.Rows
theorem nat_le_of {a b : List Nat} (h : ltCps b a = false) : a ≤ b := by
  rw [ltCps_eq] at h
  exact List.not_lt.mp (of_decide_eq_false h)
theorem rising_pw : ∀ {p : Str} {l : List Str}, risingS p l = true → (p :: l).Pairwise fun a b => tl a ≤ tl b
  | p, [], _ => List.pairwise_singleton _ _
  | p, x :: r, h => by
    rw [risingS, Bool.and_eq_true] at h
    have h1 : tl p ≤ tl x := nat_le_of (by simpa using h.1)
    have ih := rising_pw h.2
    refine List.pairwise_cons.mpr ⟨fun z hz => ?_, ih⟩
    rcases List.mem_cons.mp hz with e | hz
    · rw [e]; exact h1
    · exact List.le_trans h1 ((List.pairwise_cons.mp ih).1 z hz)
theorem sorted_pw {l : List Str} (h : sortedS l = true) : l.Pairwise fun a b => tl a ≤ tl b := by
  cases l with
  | nil => exact .nil
  | cons x r => exact rising_pw h
end
theorem pw_eq_s {xs ys : List Str} (h : xs.Pairwise fun a b => tl a ≤ tl b) (k : ys.Pairwise fun a b => tl a ≤ tl b) (p : xs.Perm ys) : xs = ys :=
  List.Perm.eq_of_pairwise (fun a b _ _ h1 h2 => str_ext (List.le_antisymm h1 h2)) h k p
theorem pw_eq_i {xs ys : List Int} (h : xs.Pairwise (· ≤ ·)) (k : ys.Pairwise (· ≤ ·)) (p : xs.Perm ys) : xs = ys :=
  List.Perm.eq_of_pairwise (fun a b _ _ h1 h2 => Int.le_antisymm h1 h2) h k p
/-- whether a quotient is not zero, as the law tells it -/
def nzB (v : SerM.Po × SerM.Po) : Bool := !decide (SerM.trim v.1 = [])
theorem nzB_iff {v : SerM.Po × SerM.Po} : nzB v = true ↔ ¬ Zp v := by
  unfold nzB
  rw [Bool.not_eq_true', decide_eq_false_iff_not, zp_co]
  refine not_congr ⟨fun h i => ?_, fun h => ?_⟩
  · rw [← SerM.trim_co, h, SerM.co_nil]
  · exact Classical.byContradiction fun n => by
      obtain ⟨i, hi⟩ := SerM.nz_of (SerM.trim_tm v.1) n
      rw [SerM.trim_co] at hi
      exact hi (h i)
theorem perm_mem {α : Type} [DecidableEq α] {xs ys : List α} (h1 : xs.Nodup) (h2 : ys.Nodup) (h : ∀ a, a ∈ xs ↔ a ∈ ys) : xs.Perm ys := (List.perm_ext_iff_of_nodup h1 h2).mpr h
def spLeafSo (K : PySem.W.Frag) (C CF : Addr) : Sp := fun vs H Q _ => ∃ (a l1 l2 t d1 d2 : Addr) (U : List Key) (ws : List Str) (is : List Int) (k1 k2 : List (Key × V)) (m1 m2 : Vf), vs = [.ref a, .ref l1, .ref l2, .ref t] ∧ FormV H C CF a U (joinV m1 m2) ∧ SqL K H l1 (ws.map V.str) ∧ SqL K H l2 (is.map V.int) ∧ (∀ z ∈ ws, z.length ≤ 1000) ∧ SqT K H t [.ref d1, .ref d2] ∧ MTab SrcOk H d1 U k1 m1 ∧ MTab BoxOk H d2 U k2 m2 ∧ ∀ H', Same H H' → Q (.bl true) H'
theorem scLeafSo : FnScope ["_law_form", "_law_names_here", "_law_indexes", "_law_model", "_law_name_z", "_law_index_z", "_law_due", "_law_late"] ["_law_form", "_law_names_here", "_law_indexes", "_law_model"] (defScope sLawLeafSo) := ⟨rfl, rfl, rfl, by decide +kernel, rfl, by decide +kernel, by decide +kernel⟩
theorem filt_snoc' {ys : List Key} {i : Nat} {k : Key} {b : Key → Bool} (h : ys[i]? = some k) : (ys.take (i + 1)).filter b = (ys.take i).filter b ++ (if b k = true then [k] else []) := by
  rw [take_snoc h, List.filter_append]
  congr 1
  by_cases hb : b k = true
  · rw [if_pos hb, List.filter_cons_of_pos hb]; rfl
  · rw [if_neg hb, List.filter_cons_of_neg hb]; rfl
theorem ok_leafSo {f C CF g1 g2 g3 g4 g5 g6 g7 : Addr} {fd e1 e2 e3 e4 e5 e6 e7 : FuncData} (F : Fun K "_law_leaf_so" "_law_leaf_so" sLawLeafSo f fd) (C' : FrmC K CF) (msorted : mg "sorted" = none) (GSo : Df P w K mg base 4 g1 e1 "_law_series_so" ["_law_found", "_law_pair_here"] (spSoL K C)) (GT : Df P w K mg base 1 g2 e2 "_law_trim" ["_law_cells_here"] (spTrimL K)) (GSa : Df P w K mg base 4 g3 e3 "_law_same" ["_law_found", "_law_due"] (spSame 4))
    (MSs : Mt P w K mg base CF 1 g4 e4 "sources" ["self"] (spSourcesF C CF)) (MBs : Mt P w K mg base CF 1 g5 e5 "boxes" ["self"] (spBoxesF C CF)) (MSo : Mt P w K mg base CF 7 g6 e6 "source" ["self", "name"] (spSource C CF)) (MBo : Mt P w K mg base CF 7 g7 e7 "box" ["self", "index"] (spBox C CF)) : FnOk P w K mg base CX0 8 f fd ["_law_form", "_law_names_here", "_law_indexes", "_law_model"] (spLeafSo K C CF) := by
  refine F.ok scLeafSo (fun vs H Q E h => ?_) (fun cdv A outer s H vs Q E hr h => ?_)
  · obtain ⟨a, l1, l2, t, d1, d2, U, ws, is, k1, k2, m1, m2, rfl, _⟩ := h
    rfl
  obtain ⟨a, l1, l2, t, d1, d2, U, ws, is, k1, k2, m1, m2, rfl, VF, L1, L2, wl, Ht, M1, M2, q⟩ := h
  obtain ⟨dx, x1, x2, x3, ha⟩ : ∃ dx d1 d2 o, H a = some (.ins CF dx (frmFs d1 d2 o)) := by
    obtain ⟨dx, d1, d2, o, _, _, R⟩ := VF
    exact ⟨dx, d1, d2, o, R.ha⟩
  have hsz : 1000000 < sizeLine := by decide
  have ll1 := M1.l
  have ll2 := M2.l
  refine ⟨_, (pss_cons (ps_for PassesOwn.never rfl (pi_list (pv 1)) (pg_name (i := 4) scLeafSo.nd rfl (by first | exact Or.inl rfl | exact Or.inr rfl))
 (pss_one (ps_if (pt_not (pt_val (pe_call GSo.ok (hr.mono (by decide)) (by rfl) GSo.m GSo.kp GSo.b .nil pass0 (pa_cons (pe_meth (pv 0) C'.cl MSo.mt MSo.ok (hr.mono (by decide)) MSo.b .nil pass0 (pa_cons (pv 4) pa_nil)) (pa_cons (pe_dget2 (hu_of hr) (pe_ix ix_tup (pv 3) pe_int (fun _ _ => rfl)) (pv 4) (pe_tup (pa_cons (pe_lst pa_nil) (pa_cons (pe_lst (pa_cons pe_int pa_nil)) pa_nil))) ⟨rfl, rfl, rfl, rfl⟩) pa_nil)))))
 (pss_one (ps_ret pe_bl))
 pss_nil)))
 (pss_cons (ps_for PassesOwn.never rfl (pi_list (pv 2)) (pg_name (i := 5) scLeafSo.nd rfl (by first | exact Or.inl rfl | exact Or.inr rfl))
 (pss_one (ps_if (pt_not (pt_val (pe_call GSo.ok (hr.mono (by decide)) (by rfl) GSo.m GSo.kp GSo.b .nil pass0 (pa_cons (pe_meth (pv 0) C'.cl MBo.mt MBo.ok (hr.mono (by decide)) MBo.b .nil pass0 (pa_cons (pv 5) pa_nil)) (pa_cons (pe_dget2 (hu_of hr) (pe_ix ix_tup (pv 3) pe_int (fun _ _ => rfl)) (pv 5) (pe_tup (pa_cons (pe_lst pa_nil) (pa_cons (pe_lst (pa_cons pe_int pa_nil)) pa_nil))) ⟨rfl, rfl, rfl, rfl⟩) pa_nil)))))
 (pss_one (ps_ret pe_bl))
 pss_nil)))
 (pss_cons (ps_setLc (i := 6) (own := [("_law_name_z", 4)]) (g := (gName 4)) rfl scLeafSo.nd rfl rfl (sw_true rfl rfl rfl (by decide +kernel)) (pi_list (pe_callB (call_sortedK rfl) (by rfl) msorted (by decide +kernel) (pa_cons (pe_ix ix_tup (pv 3) pe_int (fun _ _ => rfl)) pa_nil))) (blkOk_by (own := [("_law_name_z", 4)]) (N := ["_law_form", "_law_names_here", "_law_indexes", "_law_model", "_law_name_z", "_law_index_z", "_law_due", "_law_late"]) (sc := defScope sLawLeafSo) (by decide +kernel)) (fun _ _ _ _ _ => (pg_name (i := 4) scLeafSo.nd rfl (Or.inl rfl) (Or.inr rfl))) (fun _ _ _ _ _ => (pts_one (pt_cmpR (op_neIK (K := K) rfl hr.units) (pe_call GT.ok (hr.mono (by decide)) (by rfl) GT.m GT.kp GT.b .nil pass0 (pa_cons (pe_ix (ixTK (K := K) rfl) (pe_dget (hu_of hr) (pe_ix (ixTK (K := K) rfl) (pv 3) pe_int (fun _ _ => rfl)) (pv 4) (fun _ _ => rfl)) pe_int (fun _ _ => rfl)) pa_nil)) (pe_lst pa_nil) (nomark _)))) (fun _ _ _ _ _ => (pv 4)))
 (pss_cons (ps_setLc (i := 7) (own := [("_law_index_z", 5)]) (g := (gName 5)) rfl scLeafSo.nd rfl rfl (sw_true rfl rfl rfl (by decide +kernel)) (pi_list (pe_callB (call_sortedK rfl) (by rfl) msorted (by decide +kernel) (pa_cons (pe_ix ix_tup (pv 3) pe_int (fun _ _ => rfl)) pa_nil))) (blkOk_by (own := [("_law_index_z", 5)]) (N := ["_law_form", "_law_names_here", "_law_indexes", "_law_model", "_law_name_z", "_law_index_z", "_law_due", "_law_late"]) (sc := defScope sLawLeafSo) (by decide +kernel)) (fun _ _ _ _ _ => (pg_name (i := 5) scLeafSo.nd rfl (Or.inl rfl) (Or.inr rfl))) (fun _ _ _ _ _ => (pts_one (pt_cmpR (op_neIK (K := K) rfl hr.units) (pe_call GT.ok (hr.mono (by decide)) (by rfl) GT.m GT.kp GT.b .nil pass0 (pa_cons (pe_ix (ixTK (K := K) rfl) (pe_dget (hu_of hr) (pe_ix (ixTK (K := K) rfl) (pv 3) pe_int (fun _ _ => rfl)) (pv 5) (fun _ _ => rfl)) pe_int (fun _ _ => rfl)) pa_nil)) (pe_lst pa_nil) (nomark _)))) (fun _ _ _ _ _ => (pv 5)))
 (pss_one (ps_ret (pe_call GSa.ok (hr.mono (by decide)) (by rfl) GSa.m GSa.kp GSa.b .nil pass0 (pa_cons (pe_lst (pa_cons (pe_meth0 (pv 0) C'.cl MSs.mt MSs.ok (hr.mono (by decide)) MSs.b .nil pass0) (pa_cons (pe_meth0 (pv 0) C'.cl MBs.mt MBs.ok (hr.mono (by decide)) MBs.b .nil pass0) pa_nil))) (pa_cons (pe_lst (pa_cons (pv 6) (pa_cons (pv 7) pa_nil))) pa_nil))))))))), ?_⟩
  refine ⟨_, rfl, l1, rfl, ⟨_, L1⟩, for_list (K := K) (a := l1) (xs := ws.map V.str) (fun i σ' H2 => ∃ pv, σ' = [some (.ref a), some (.ref l1), some (.ref l2), some (.ref t), pv, none, none, none] ∧ Same H H2)
    ⟨none, rfl, Same.refl _⟩ (fun i σ' H2 _ h => by obtain ⟨_, _, s⟩ := h; exact s.seq L1) ?_ ?_⟩
  · rintro i x σ' H2 hx ⟨pv, rfl, s2⟩
    rw [List.getElem?_map] at hx
    obtain ⟨z, hz, rfl⟩ := Option.map_eq_some_iff.mp hx
    have zl := wl z (List.mem_of_getElem? hz)
    refine ⟨_, rfl, a, dx, _, rfl, s2 _ _ ha, rfl, _, rfl, a, z, U, _, rfl, zl, VF.same s2, fun b H3 s3 V3 => ?_⟩
    have s13 := s2.trans s3
    dsimp only [gName, tCons]
    refine rd_get (k := Sum.inr z) (M1.same s13) (fun R r => ⟨_, rfl, t, _, _, _, rfl, rfl, (sameT s13 Ht), rfl, r⟩) (fun R r => ⟨_, rfl, r⟩) fun t1 H4 s4 T1 => ?_
    obtain ⟨u, v, S, I⟩ := ValU.so (V3.same s4)
    obtain ⟨tx, ty, h1, h2, h3⟩ := T1
    refine ⟨b, t1, tx, ty, u, v, _, _, 21, 96, rfl, S, SqT.of h1, SqL.of h2, SqL.of h3, I, fun H5 s5 => ?_⟩
    exact ⟨_, rfl, iteF ⟨_, rfl, s13.trans (s4.trans s5)⟩⟩
  rintro σ' H2 ⟨pv, rfl, s2⟩
  refine ⟨_, rfl, l2, rfl, ⟨_, s2.seq L2⟩, for_list (K := K) (a := l2) (xs := is.map V.int) (fun i σ' H3 => ∃ pw, σ' = [some (.ref a), some (.ref l1), some (.ref l2), some (.ref t), pv, pw, none, none] ∧ Same H H3)
    ⟨none, rfl, s2⟩ (fun i σ' H2 _ h => by obtain ⟨_, _, s⟩ := h; exact s.seq L2) ?_ ?_⟩
  · rintro i x σ' H3 hx ⟨pw, rfl, s3⟩
    rw [List.getElem?_map] at hx
    obtain ⟨z, hz, rfl⟩ := Option.map_eq_some_iff.mp hx
    refine ⟨_, rfl, a, dx, _, rfl, s3 _ _ ha, rfl, _, rfl, a, z, U, _, rfl, VF.same s3, fun b H4 s4 V4 => ?_⟩
    have s14 := s3.trans s4
    dsimp only [gName, tCons]
    refine rd_get (k := Sum.inl z) (M2.same s14) (fun R r => ⟨_, rfl, t, _, _, _, rfl, rfl, (sameT s14 Ht), rfl, r⟩) (fun R r => ⟨_, rfl, r⟩) fun t1 H5 s5 T1 => ?_
    obtain ⟨u, v, S, I⟩ := ValU.so (V4.same s5)
    obtain ⟨tx, ty, h1, h2, h3⟩ := T1
    refine ⟨b, t1, tx, ty, u, v, _, _, 21, 96, rfl, S, SqT.of h1, SqL.of h2, SqL.of h3, I, fun H6 s6 => ?_⟩
    exact ⟨_, rfl, iteF ⟨_, rfl, s14.trans (s5.trans s6)⟩⟩
  rintro σ' H3 ⟨pw, rfl, s3⟩
  have fr : ∀ k, Frac (joinV m1 m2 k).1 (joinV m1 m2 k).2 uni := by
    obtain ⟨_, _, _, _, _, _, R⟩ := VF
    exact R.fr
  -- the names that are due
  refine ⟨_, rfl, t, _, _, _, rfl, rfl, (sameT s3 Ht), rfl, d1, k1, rfl, .inl (s3 _ _ M1.at_), onek_s M1.ok, by omega, fun ys l hp hs hl => ?_⟩
  have s4 := s3.trans (same_upd hl (.lst (ys.map kV)))
  have gl : upd H3 l (.lst (ys.map kV)) l = some (.lst (ys.map kV)) := upd_same
  generalize upd H3 l (.lst (ys.map kV)) = H4 at s4 gl ⊢
  refine ⟨l, rfl, ⟨_, SqL.of gl⟩, fun D hD => ?_⟩
  refine lc_it (walk_list (K := K) (xs := ys.map kV)) (fun i H5 => Same H4 H5 ∧ H5 D = some (.lst (((ys.take i).filter fun k => nzB (m1 k)).map kV))) ⟨same_upd hD _, upd_same⟩ (fun i H5 _ h => h.1.seq (SqL.of gl)) ?_ ?_
  · rintro i x H5 H6 hi ⟨s5, h5⟩ ⟨rfl, hx⟩
    rw [List.getElem?_map] at hx
    obtain ⟨k, hki, rfl⟩ := Option.map_eq_some_iff.mp hx
    have hmem : k ∈ k1.map (·.1) := hp.mem_iff.mp (List.mem_of_getElem? hki)
    have s15 := s4.trans s5
    obtain ⟨t', ev', ⟨tx, ty, ht, hx, hy⟩⟩ := val_of_key (M1.same s15) hmem
    have gk : DGet H6 d1 (kV k) (some (.ref t')) := by rw [← ev']; exact DGet.k (s15 _ _ M1.at_)
    have yl : ys.length ≤ 40 := by
      have := hp.length_eq
      rw [List.length_map] at this
      omega
    have tl' : (m1 k).1.length ≤ 1000 := by
      obtain ⟨r, hr', er⟩ := List.mem_map.mp hmem
      obtain ⟨z, ez, _⟩ := M1.ok r hr'
      have := (fr k).pl
      rw [← er, ez] at this ⊢
      exact Nat.le_trans this (by decide)
    refine ⟨rfl, _, rfl, t, _, _, _, rfl, rfl, (sameT s15 Ht), rfl, _, rfl, d1, _, rfl, gk, t', _, _, _, rfl, rfl, SqT.of ht, rfl, tx, _, rfl, SqL.of hx, tl', fun r H7 s7 hr' h7 => ?_⟩
    refine ⟨(by show 0 ≤ sizeLine; decide), fun e he => ?_⟩
    have s8 := s7.trans (same_upd he (.lst []))
    have h8 := same_upd he (.lst []) _ _ h7
    have g8 : upd H7 e (.lst []) e = some (.lst (iv [])) := upd_same
    generalize upd H7 e (.lst []) = H8 at s8 h8 g8 ⊢
    refine ⟨r, e, _, _, rfl, rfl, SqL.of h8, SqL.of g8, _, rfl, ?_⟩
    have e1 := filt_snoc' (b := fun k => nzB (m1 k)) hki
    have h5' := s8 _ _ h5
    cases hb : nzB (m1 k) with
    | true =>
      rw [show (!decide (SerM.trim (m1 k).1 = [])) = true from hb]
      rw [hb, if_pos rfl] at e1
      refine iteT ⟨_, rfl, _, h5', ?_, fun b o hb' => ?_, ?_⟩
      · have := List.length_filter_le (fun k => nzB (m1 k)) (ys.take i)
        rw [List.length_map]
        rw [List.length_take] at this
        omega
      · rw [upd_ne (ne_of_none hb' hD)]
        exact s8 _ _ (s5 _ _ hb')
      · rw [upd_same, e1, List.map_append]; rfl
    | false =>
      rw [show (!decide (SerM.trim (m1 k).1 = [])) = false from hb]
      rw [hb, if_neg (by decide), List.append_nil] at e1
      refine iteF ⟨s5.trans s8, ?_⟩
      rw [e1]; exact h5'
  rintro H5 ⟨s5, h5⟩
  rw [List.length_map, List.take_of_length_le (Nat.le_refl _)] at h5
  have s15 := s4.trans s5
  -- the indexes
  refine ⟨_, rfl, t, _, _, _, rfl, rfl, (sameT s15 Ht), rfl, d2, k2, rfl, .inl (s15 _ _ M2.at_), onek_b M2.ok, by omega, fun zs l' hp2 hs2 hl2 => ?_⟩
  have s6 := s15.trans (same_upd hl2 (.lst (zs.map kV)))
  have h5 := same_upd hl2 (.lst (zs.map kV)) _ _ h5
  have gl2 : upd H5 l' (.lst (zs.map kV)) l' = some (.lst (zs.map kV)) := upd_same
  generalize upd H5 l' (.lst (zs.map kV)) = H6 at s6 h5 gl2 ⊢
  refine ⟨l', rfl, ⟨_, SqL.of gl2⟩, fun D2 hD2 => ?_⟩
  refine lc_it (walk_list (K := K) (xs := zs.map kV)) (fun i H7 => Same H6 H7 ∧ H7 D2 = some (.lst (((zs.take i).filter fun k => nzB (m2 k)).map kV))) ⟨same_upd hD2 _, upd_same⟩ (fun i H5 _ h => h.1.seq (SqL.of gl2)) ?_ ?_
  · rintro i x H7 H8 hi ⟨s7, h7⟩ ⟨rfl, hx⟩
    rw [List.getElem?_map] at hx
    obtain ⟨k, hki, rfl⟩ := Option.map_eq_some_iff.mp hx
    have hmem : k ∈ k2.map (·.1) := hp2.mem_iff.mp (List.mem_of_getElem? hki)
    have s17 := s6.trans s7
    obtain ⟨t', ev', ⟨tx, ty, ht, hx, hy⟩⟩ := val_of_key (M2.same s17) hmem
    have gk : DGet H8 d2 (kV k) (some (.ref t')) := by rw [← ev']; exact DGet.k (s17 _ _ M2.at_)
    have yl : zs.length ≤ 40 := by
      have := hp2.length_eq
      rw [List.length_map] at this
      omega
    have tl' : (m2 k).1.length ≤ 1000 := by
      obtain ⟨r, hr', er⟩ := List.mem_map.mp hmem
      obtain ⟨z, ez, _⟩ := M2.ok r hr'
      have := (fr k).pl
      rw [← er, ez] at this ⊢
      exact Nat.le_trans this (by decide)
    refine ⟨rfl, _, rfl, t, _, _, _, rfl, rfl, (sameT s17 Ht), rfl, _, rfl, d2, _, rfl, gk, t', _, _, _, rfl, rfl, SqT.of ht, rfl, tx, _, rfl, SqL.of hx, tl', fun r H9 s9 hr' h9 => ?_⟩
    refine ⟨(by show 0 ≤ sizeLine; decide), fun e he => ?_⟩
    have s10 := s9.trans (same_upd he (.lst []))
    have h10 := same_upd he (.lst []) _ _ h9
    have g10 : upd H9 e (.lst []) e = some (.lst (iv [])) := upd_same
    generalize upd H9 e (.lst []) = H10 at s10 h10 g10 ⊢
    refine ⟨r, e, _, _, rfl, rfl, SqL.of h10, SqL.of g10, _, rfl, ?_⟩
    have e1 := filt_snoc' (b := fun k => nzB (m2 k)) hki
    have h7' := s10 _ _ h7
    cases hb : nzB (m2 k) with
    | true =>
      rw [show (!decide (SerM.trim (m2 k).1 = [])) = true from hb]
      rw [hb, if_pos rfl] at e1
      refine iteT ⟨_, rfl, _, h7', ?_, fun b o hb' => ?_, ?_⟩
      · have := List.length_filter_le (fun k => nzB (m2 k)) (zs.take i)
        rw [List.length_map]
        rw [List.length_take] at this
        omega
      · rw [upd_ne (ne_of_none hb' hD2)]
        exact s10 _ _ (s7 _ _ hb')
      · rw [upd_same, e1, List.map_append]; rfl
    | false =>
      rw [show (!decide (SerM.trim (m2 k).1 = [])) = false from hb]
      rw [hb, if_neg (by decide), List.append_nil] at e1
      refine iteF ⟨s7.trans s10, ?_⟩
      rw [e1]; exact h7'
  rintro H7 ⟨s7, h7⟩
  rw [List.length_map, List.take_of_length_le (Nat.le_refl _)] at h7
  have h5 := s7 _ _ h5
  have s17 := s6.trans s7
  -- both lists are the form's
  have VF7 := VF.same s17
  have ha7 := s17 _ _ ha
  refine ⟨_, rfl, a, dx, _, rfl, ha7, rfl, a, U, _, rfl, VF7, fun p1 y1 H8 s8 hp1 h8 SL => ?_⟩
  refine ⟨_, rfl, a, dx, _, rfl, s8 _ _ ha7, rfl, a, U, _, rfl, VF7.same s8, fun p2 y2 H9 s9 hp2' h9 BL => ?_⟩
  have h8 := s9 _ _ h8
  refine ⟨(by show 2 ≤ sizeLine; decide), fun q1 hq1 => ?_⟩
  have s10 := same_upd hq1 (.lst [V.ref p1, V.ref p2])
  have g10 : upd H9 q1 (.lst [V.ref p1, V.ref p2]) q1 = some (.lst [V.ref p1, V.ref p2]) := upd_same
  generalize upd H9 q1 (.lst [V.ref p1, V.ref p2]) = H10 at s10 g10 ⊢
  refine ⟨_, rfl, _, rfl, (by show 2 ≤ sizeLine; decide), fun q2 hq2 => ?_⟩
  have s11 := same_upd hq2 (.lst [V.ref D, V.ref D2])
  have g11 : upd H10 q2 (.lst [V.ref D, V.ref D2]) q2 = some (.lst [V.ref D, V.ref D2]) := upd_same
  have g10 := s11 _ _ g10
  generalize upd H10 q2 (.lst [V.ref D, V.ref D2]) = H11 at s11 g10 g11 ⊢
  have h8 := s11 _ _ (s10 _ _ h8)
  have h9 := s11 _ _ (s10 _ _ h9)
  have h5 := s11 _ _ (s10 _ _ (s9 _ _ (s8 _ _ h5)))
  have h7 := s11 _ _ (s10 _ _ (s9 _ _ (s8 _ _ h7)))
  have E1 : (ys.filter fun k => nzB (m1 k)).map kV = y1.map V.str := by
    have hin : ∀ k, k ∈ ys ↔ KeysIn k1 k := fun k => hp.mem_iff
    rcases hs with ⟨zs', e, hsrt⟩ | ⟨zs', e, hsrt⟩
    · have hf : ys.filter (fun k => nzB (m1 k)) = (zs'.filter fun z => nzB (m1 (Sum.inr z))).map Sum.inr := by rw [e, List.filter_map]; rfl
      rw [hf, kv_s]
      congr 1
      have ndz : zs'.Nodup := by
        have := hp.nodup_iff.mpr M1.nd
        rw [e] at this
        exact (List.pairwise_map.mp this).imp fun h e => h (congrArg _ e)
      refine pw_eq_s (List.Pairwise.sublist List.filter_sublist (sorted_pw hsrt)) (sorted_pw SL.srt) (perm_mem (List.Nodup.sublist List.filter_sublist ndz) SL.nd fun z => ?_)
      rw [List.mem_filter, SL.iff z, nzB_iff]
      show _ ↔ ¬ Zp (m1 (Sum.inr z))
      refine ⟨fun h => h.2, fun h => ⟨?_, h⟩⟩
      have : KeysIn k1 (Sum.inr z) := Classical.byContradiction fun n => h (by rw [M1.df _ n]; exact fun _ => rfl)
      have := (hin _).mpr this
      rw [e] at this
      obtain ⟨z', hz', ez⟩ := List.mem_map.mp this
      cases ez; exact hz'
    · have hk : k1 = [] ∨ ∃ p, p ∈ k1 := by cases k1 with
        | nil => exact .inl rfl
        | cons p r => exact .inr ⟨p, List.mem_cons_self⟩
      rcases hk with hk | ⟨p, hpp⟩
      · have : ys = [] := by
          have := hp.length_eq
          rw [hk] at this
          exact List.eq_nil_of_length_eq_zero this
        rw [this]
        have : y1 = [] := List.eq_nil_iff_forall_not_mem.mpr fun z hz => (SL.iff z).mp hz (by
          show Zp (m1 (Sum.inr z))
          rw [M1.df _ (by rw [hk]; exact fun h => nomatch h)]; exact fun _ => rfl)
        rw [this]; rfl
      · obtain ⟨z, ez, _⟩ := M1.ok p hpp
        have := (hin p.1).mpr (List.mem_map.mpr ⟨p, hpp, rfl⟩)
        rw [e, ez] at this
        obtain ⟨z', _, ez'⟩ := List.mem_map.mp this
        cases ez'
  have E2 : (zs.filter fun k => nzB (m2 k)).map kV = y2.map V.int := by
    have hin : ∀ k, k ∈ zs ↔ KeysIn k2 k := fun k => hp2.mem_iff
    rcases hs2 with ⟨zs', e, hsrt⟩ | ⟨zs', e, hsrt⟩
    · have hk : k2 = [] ∨ ∃ p, p ∈ k2 := by cases k2 with
        | nil => exact .inl rfl
        | cons p r => exact .inr ⟨p, List.mem_cons_self⟩
      rcases hk with hk | ⟨p, hpp⟩
      · have : zs = [] := by
          have := hp2.length_eq
          rw [hk] at this
          exact List.eq_nil_of_length_eq_zero this
        rw [this]
        have : y2 = [] := List.eq_nil_iff_forall_not_mem.mpr fun z hz => (BL.iff z).mp hz (by
          show Zp (m2 (Sum.inl z))
          rw [M2.df _ (by rw [hk]; exact fun h => nomatch h)]; exact fun _ => rfl)
        rw [this]; rfl
      · obtain ⟨z, ez, _⟩ := M2.ok p hpp
        have := (hin p.1).mpr (List.mem_map.mpr ⟨p, hpp, rfl⟩)
        rw [e, ez] at this
        obtain ⟨z', _, ez'⟩ := List.mem_map.mp this
        cases ez'
    · have hf : zs.filter (fun k => nzB (m2 k)) = (zs'.filter fun z => nzB (m2 (Sum.inl z))).map Sum.inl := by rw [e, List.filter_map]; rfl
      rw [hf, kv_i]
      congr 1
      have ndz : zs'.Nodup := by
        have := hp2.nodup_iff.mpr M2.nd
        rw [e] at this
        exact (List.pairwise_map.mp this).imp fun h e => h (congrArg _ e)
      refine pw_eq_i (List.Pairwise.sublist List.filter_sublist hsrt) BL.srt (perm_mem (List.Nodup.sublist List.filter_sublist ndz) BL.nd fun z => ?_)
      rw [List.mem_filter, BL.iff z, nzB_iff]
      show _ ↔ ¬ Zp (m2 (Sum.inl z))
      refine ⟨fun h => h.2, fun h => ⟨?_, h⟩⟩
      have : KeysIn k2 (Sum.inl z) := Classical.byContradiction fun n => h (by rw [M2.df _ n]; exact fun _ => rfl)
      have := (hin _).mpr this
      rw [e] at this
      obtain ⟨z', hz', ez⟩ := List.mem_map.mp this
      cases ez; exact hz'
  rw [E1] at h5
  rw [E2] at h7
  have sl := SL.l
  have bl := BL.l
  have leaf_s : ∀ (ys : List Str) i u v, (ys.map V.str)[i]? = some u → (ys.map V.str)[i]? = some v → Un.Eqv H11 1 u v := fun ys i u v h1 h2 => by
    rw [h1] at h2
    cases h2
    rw [List.getElem?_map] at h1
    obtain ⟨z, _, rfl⟩ := Option.map_eq_some_iff.mp h1
    exact Eqv.leaf (by trivial) _
  have leaf_i : ∀ (ys : List Int) i u v, (ys.map V.int)[i]? = some u → (ys.map V.int)[i]? = some v → Un.Eqv H11 1 u v := fun ys i u v h1 h2 => by
    rw [h1] at h2
    cases h2
    rw [List.getElem?_map] at h1
    obtain ⟨z, _, rfl⟩ := Option.map_eq_some_iff.mp h1
    exact Eqv.leaf (by trivial) _
  refine ⟨_, _, rfl, .inr ⟨q1, q2, [.ref p1, .ref p2], [.ref D, .ref D2], rfl, rfl, rfl, (by show 2 ≤ 100000; decide), .inl ⟨g10, g11⟩, fun i u v hu hv => ?_⟩, fun H12 s12 => q H12 (((s17.trans s8).trans (s9.trans (s10.trans s11))).trans s12)⟩
  match i, hu, hv with
  | 0, hu, hv =>
    cases hu
    cases hv
    exact .inr ⟨p1, D, _, _, rfl, rfl, rfl, by rw [List.length_map]; omega, .inl ⟨h8, h5⟩, leaf_s y1⟩
  | 1, hu, hv =>
    cases hu
    cases hv
    exact .inr ⟨p2, D2, _, _, rfl, rfl, rfl, by rw [List.length_map]; omega, .inl ⟨h9, h7⟩, leaf_i y2⟩
  | _ + 2, hu, hv => cases hu
end
end Un
/-! ### dicts whose values are compared by an own == -/
namespace DQH
open PySem PySem.Calls PyProof.Rows PyProof.V PySem.Spec PySem.W
section
variable {prog : Program} {w : World} {K : Type} [DecidableEq K] {knd : KeyKind prog w K} {A : Around} {E : Value → Shared → Prop} {s : Shared}
theorem samePairsH {nm : String} {a b : Addr} {oa ob : Obj} {es es' : Array DictEntry} {ep ep' : Nat} {ka kb : List (K × Value)} {Q : Bool → Shared → Prop} (ha : (a == sysModules) = false) (hb : (b == sysModules) = false)
    (hda : oa.data = .dict es ep) (hka : KeysOf knd es) (hpa : Pairs knd es.toList ka) (hdb : ob.data = .dict es' ep') (hkb : KeysOf knd es') (hpb : Pairs knd es'.toList kb) (nb : (kb.map (·.1)).Nodup)
    (J : Nat → Shared → Prop) (hJ : ∀ i s, J i s → s.heap.get? a = some oa ∧ s.heap.get? b = some ob)
    (turn : ka.length = kb.length → ∀ i k v s, ka[i]? = some (k, v) → J i s → (valueAt kb k = none → Q false s) ∧ ∀ y, valueAt kb k = some y → wpAny (model prog w) A (eqBool v y) (fun r s2 => (r = true → J (i + 1) s2) ∧ (r = false → Q false s2)) E s)
    (fin : ka.length = kb.length → ∀ s, J ka.length s → Q true s) (neg : ka.length ≠ kb.length → Q false s) (h : J 0 s) :
    wpAny (model prog w) A (Builtin.Dict.samePairs nm a b) Q E s := by
  obtain ⟨hoa, hob⟩ := hJ _ _ h
  have hla : ka.length = es.size := by rw [← hpa.length]; exact Array.length_toList
  have hlb : kb.length = es'.size := by rw [← hpb.length]; exact Array.length_toList
  have hfind : ∀ k, findBy knd.is es' k = valueAt kb k := fun k => by
    rw [← hpb.find k]
    clear hlb hpb hkb hdb hob
    obtain ⟨l⟩ := es'
    simp [findBy]
  unfold Builtin.Dict.samePairs Builtin.Dict.showsAll
  rw [if_neg (show ¬ (a == sysModules) = true by rw [ha]; exact Bool.false_ne_true), if_neg (show ¬ (b == sysModules) = true by rw [hb]; exact Bool.false_ne_true)]
  refine wpAny_bind (wpAny_pure (wpAny_bind (wpAny_pure ?_)))
  refine wpAny_bind (wpAny_dictEntries hoa hda ?_)
  dsimp only
  refine wpAny_bind (wpAny_dictEntries hob hdb ?_)
  by_cases hsz : es.size = es'.size
  case neg =>
    rw [if_pos (by simpa using hsz)]
    exact wpAny_bind (wpAny_rule (wpAny_pure (neg (by rw [hla, hlb]; exact hsz))))
  case pos =>
    rw [if_neg (by rw [hsz]; simp)]
    refine wpAny_bind (wpAny_dictEpoch hoa hda ?_)
    refine wpAny_bind ?_
    rw [Std.Legacy.Range.forIn_eq_forIn_range']
    simp only [Std.Legacy.Range.size, Nat.sub_zero, Nat.add_sub_cancel, Nat.div_one]
    refine wpAny_forIn_list _
      (fun rest q s' => q = (none, ()) ∧ ∃ i, rest = List.range' i (es.size - i) ∧ i ≤ es.size ∧ J i s')
      _ ?_ ?_ _ _ ⟨rfl, 0, by simp, Nat.zero_le _, h⟩
    · rintro x rest q s' ⟨rfl, i, hr, hi, hj⟩
      have hlt : i < es.size := by
        rcases Nat.lt_or_ge i es.size with h | h
        · exact h
        · rw [Nat.sub_eq_zero_of_le h] at hr; simp at hr
      obtain ⟨rfl, hrest⟩ : x = i ∧ rest = List.range' (i + 1) (es.size - (i + 1)) := by
        have e : es.size - i = (es.size - (i + 1)) + 1 := by omega
        rw [e, List.range'_succ] at hr
        injection hr with h1 h2
        exact ⟨h1, h2⟩
      obtain ⟨hoa, hob⟩ := hJ _ _ hj
      refine wpAny_bind (wpAny_dictEntries hoa hda ?_)
      rw [Array.getElem?_eq_getElem hlt]
      have hlt' : x < ka.length := by rw [hla]; exact hlt
      obtain ⟨k, v, hkv⟩ : ∃ k v, ka[x] = (k, v) := ⟨_, _, rfl⟩
      obtain ⟨hkey, hval⟩ := hpa.get? (i := x) (e := es[x]) (k := k) (v := v) (by rw [Array.getElem?_toList]; exact Array.getElem?_eq_getElem hlt) (by rw [List.getElem?_eq_getElem hlt', hkv])
      obtain ⟨k', hk', hh⟩ := hka es[x] (Array.getElem_mem hlt)
      have ekk : k' = k := knd.inj _ _ _ hk' hkey
      rw [ekk] at hh
      obtain ⟨t1, t2⟩ := turn (by rw [hla, hlb]; exact hsz) x k v s' (by rw [List.getElem?_eq_getElem hlt', hkv]) hj
      show wpAny _ _ (holding [es[x].key, es[x].val] _ >>= _) _ _ _
      rw [hh]
      refine wpAny_bind (wpAny_holding (wpAny_bind (wpAny_dictFind_of hkey hob hdb hkb ?_)))
      cases hj : es'.findIdx? fun e => knd.is k e.key with
      | none =>
        have hn : valueAt kb k = none := by rw [← hfind k, findBy_of_findIdx?, hj]
        refine wpAny_pure ?_
        show wpAny _ _ (if (!false) = true then _ else _) _ _ _
        rw [if_pos (by decide)]
        exact wpAny_pure (wpAny_pure (t1 hn))
      | some j =>
        obtain ⟨hjlt, _, _⟩ := Array.findIdx?_eq_some_iff_getElem.mp hj
        have hv' : valueAt kb k = some es'[j].val := by
          rw [← hfind k, findBy_of_findIdx?, hj]
          simp [Array.getElem?_eq_getElem hjlt]
        refine wpAny_bind (wpAny_dictEntries hob hdb ?_)
        rw [Array.getElem?_eq_getElem hjlt]
        have ht := t2 _ hv'
        rw [← hval] at ht
        refine wpAny_holding (wpAny_mono ht (fun r s2 h2 => ?_) fun _ _ x => x)
        cases r with
        | false =>
          show wpAny _ _ (if (!false) = true then _ else _) _ _ _
          rw [if_pos (by decide)]
          exact wpAny_pure (wpAny_pure (h2.2 rfl))
        | true =>
          have j2 := h2.1 rfl
          show wpAny _ _ (if (!true) = true then _ else _) _ _ _
          rw [if_neg (by decide)]
          refine wpAny_bind (wpAny_dictEpoch (hJ _ _ j2).1 hda ?_)
          rw [if_neg (by simp)]
          exact wpAny_pure ⟨rfl, x + 1, hrest, hlt, j2⟩
    · rintro q s' ⟨rfl, i, hr, hi, hj⟩
      have hin : i = es.size := by
        rcases Nat.lt_or_ge i es.size with h | h
        · have e : es.size - i = (es.size - (i + 1)) + 1 := by omega
          rw [e, List.range'_succ] at hr; exact nomatch hr
        · exact Nat.le_antisymm hi h
      refine wpAny_pure ?_
      rw [hin, ← hla] at hj
      exact fin (by rw [hla, hlb]; exact hsz) _ hj
/-- the same by == -/
theorem rc_dictH {a b : Addr} {oa ob : Obj} {es es' : Array DictEntry} {ep ep' : Nat} {ka kb : List (K × Value)} {Q : Value → Shared → Prop} (ha : (a == sysModules) = false) (hb : (b == sysModules) = false) (xa : oa.ExactDict) (xb : ob.ExactDict)
    (hda : oa.data = .dict es ep) (hka : KeysOf knd es) (hpa : Pairs knd es.toList ka) (na : (ka.map (·.1)).Nodup) (hdb : ob.data = .dict es' ep') (hkb : KeysOf knd es') (hpb : Pairs knd es'.toList kb) (nb : (kb.map (·.1)).Nodup) (hu : A.units < cLine)
    (J : Nat → Shared → Prop) (hJ : ∀ i s, J i s → s.heap.get? a = some oa ∧ s.heap.get? b = some ob)
    (turn : ka.length = kb.length → ∀ i k v s, ka[i]? = some (k, v) → J i s → (valueAt kb k = none → Q (.bool false) s) ∧ ∀ y, valueAt kb k = some y → wpAny (model prog w) A.in1 (eqBool v y) (fun r s2 => (r = true → J (i + 1) s2) ∧ (r = false → Q (.bool false) s2)) E s)
    (fin : ka.length = kb.length → ∀ s, J ka.length s → Q (.bool true) s) (neg : ka.length ≠ kb.length → Q (.bool false) s) (h : J 0 s) :
    wpAny (model prog w) A (richCompare .Eq (.ref a) (.ref b)) Q E s := by
  obtain ⟨hoa, hob⟩ := hJ _ _ h
  have da : s.heap.DictOf knd a ka := ⟨oa, es, ep, hoa, xa, hda, hka, hpa, na⟩
  have db : s.heap.DictOf knd b kb := ⟨ob, es', ep', hob, xb, hdb, hkb, hpb, nb⟩
  refine wpAny_richCompare_same_room (op := .Eq) da.typeIs db.typeIs PySem.F.slot_dict_eq (wpAny_call_entry PySem.F.slot_dict_eq da.typeIs PySem.F.entry_dict_eq ?_ (PySem.F.args_dict_eq_2 _ _)) hu
  show wpAny _ _ (Builtin.Dict.dictSlotArgs "__eq__" ⟨[.ref a, .ref b], []⟩ >>= _) _ _ s
  refine wpAny_bind ?_
  unfold Builtin.Dict.dictSlotArgs
  refine wpAny_bind (wpAny_notOrdered_dict da.typeIs ?_)
  show wpAny _ _ (pure (Value.ref a, Value.ref b)) _ _ s
  refine wpAny_pure ?_
  refine wpAny_bind (wpAny_isInstance (T := "dict") db.typeIs PySem.F.sub_dict_dict ?_)
  simp only [Bool.not_true, Bool.false_eq_true, if_false]
  refine wpAny_bind (wpAny_pure (wpAny_bind (wpAny_pure ?_)))
  refine wpAny_bind (samePairsH ha hb hda hka hpa hdb hkb hpb nb J hJ (fun hl i k v s hi hj => ?_) (fun hl s hj => ?_) (fun hn => ?_) h)
  · obtain ⟨t1, t2⟩ := turn hl i k v s hi hj
    refine ⟨fun hn => wpAny_pure ⟨_, rfl, (fun x => nomatch x), t1 hn⟩, fun y hy => wpAny_mono (t2 y hy) (fun r s2 h2 => ⟨h2.1, fun hr => wpAny_pure ⟨_, rfl, (fun x => nomatch x), h2.2 hr⟩⟩) fun _ _ x => ?_⟩
    exact x
  · exact wpAny_pure ⟨_, rfl, (fun x => nomatch x), fin hl s hj⟩
  · exact wpAny_pure ⟨_, rfl, (fun x => nomatch x), neg hn⟩
end
end DQH
namespace L2
open PySem PySem.Spec PyProof.Rows
section
variable {X : Cx} {n : Nat}
abbrev EqvB := V → V → Bool → Hp → Prop
def MonB (D : EqvB) : Prop := ∀ x y r H H', Ext H H' → D x y r H → D x y r H'
def EqB (X : Cx) (n : Nat) (D : EqvB) : Prop :=
  ∀ (A : Around) (pins : List (Addr × Obj)) (s : Shared) (σ : St) (H : Hp) (x y : V) (b : Bool) (u v : Value), Sub X n A → Inv X pins σ H s → RelV x u → RelV y v → D x y b H →
    wpAny (model X.prog X.w) A (eqBool u v) (fun r s' => r = b ∧ ∃ H', Inv X pins σ H' s' ∧ Ext H H') X.xe s
def RcB (X : Cx) (n : Nat) (D : EqvB) : Prop :=
  ∀ (A : Around) (pins : List (Addr × Obj)) (s : Shared) (σ : St) (H : Hp) (x y : V) (b : Bool) (u v : Value), Sub X n A → Inv X pins σ H s → RelV x u → RelV y v → D x y b H →
    wpAny (model X.prog X.w) A (richCompare .Eq u v) (fun r s' => r = .bool b ∧ ∃ H', Inv X pins σ H' s' ∧ Ext H H') X.xe s
def DInsB (C : Addr) (R : Addr → Addr → Bool → Hp → Prop) : EqvB := fun x y r H => ∃ a b dx dy fs gs, x = .ref a ∧ y = .ref b ∧ H a = some (.ins C dx fs) ∧ H b = some (.ins C dy gs) ∧ R a b r H
def spEqB (R : Addr → Addr → Bool → Hp → Prop) : Sp := fun vs H Q _ => ∃ a b r, vs = [.ref a, .ref b] ∧ R a b r H ∧ ∀ H', Ext H H' → Q (.bl r) H'
theorem rcB_ins {CX : CXT} {C f : Addr} {fd : FuncData} {ps : List Str} {R : Addr → Addr → Bool → Hp → Prop} {E : XK} (F : FnOk X.prog X.w X.K X.mg X.base CX n f fd ps (spEqB R))
    (hs : PySem.W.findIn X.K (.ref C) "__eq__" = some (some (.ref f))) (hf : PySem.W.isFn X.K (.ref f) = true) (hb : Binds X.K fd ps []) (hx : Passes CX X E) : RcB X n (DInsB C R) := by
  intro A pins s σ H x y bo u v sb I rx ry d
  obtain ⟨a, b, dx, dy, fs, gs, rfl, rfl, ha, hb', hr⟩ := d
  cases rx
  cases ry
  obtain ⟨mA, J, _⟩ := ins_get I.hok ha
  obtain ⟨mB, J', _⟩ := ins_get I.hok hb'
  obtain ⟨od, J, _⟩ := J.look
  obtain ⟨od', J', _⟩ := J'.look
  obtain ⟨m, hF⟩ := I.fr
  refine PySem.W.cmp_K (op := .Eq) (tb := .ref C) sb.room.units0 hF I.ok.mod.kin J J'.type (by simp [PySem.W.notFirst]) hs hf ?_
  have hsp : spEqB R [.ref a, .ref b] H (fun v H' => v = .bl bo ∧ Ext H H') E := ⟨a, b, bo, rfl, hr, fun H' e => ⟨rfl, e⟩⟩
  have e0 : Env0 X.prog X.w X.K X.mg X.base A X.stack s H := by
    have e := I.env0
    exact ⟨by rw [sb.fr]; exact e.frames, e.mod, e.bs, e.bsz, e.funs, e.frf, e.hok, e.bare⟩
  have hl := F.len _ _ _ _ hsp
  have r2 : Vals [V.ref a, V.ref b] [Value.ref a, Value.ref b] := .cons rfl (.cons rfl .nil)
  refine wpAny_call (codeAny_mono (F.run A X.stack s H ⟨[.ref a, .ref b], []⟩ [.ref a, .ref b] [.ref a, .ref b] _ E sb.room e0 (by
    have := hb s [.ref a, .ref b] I.kIn (by simpa using hl)
    simpa using this) r2 hsp) fun r s' hq => ?_)
  cases r with
  | error e => exact hx pins σ H s e s' I hq
  | ok fl =>
    cases fl with
    | ret w =>
      obtain ⟨z, H', I', rz, ez, ex⟩ := I.after hq
      subst ez
      cases rz
      exact ⟨rfl, H', I', ex⟩
    | next => exact False.elim hq
    | brk => exact False.elim hq
    | cont => exact False.elim hq
variable {D : EqvB}
theorem RcB.eqB (h : RcB X n D) (hr : ∀ x y b H, D x y b H → ∃ a c, x = .ref a ∧ y = .ref c) (hs : ∀ a b H, D (.ref a) (.ref a) b H → b = true) : EqB X n D := by
  intro A pins s σ H x y bo u v sb I rx ry d
  obtain ⟨a, b, rfl, rfl⟩ := hr _ _ _ _ d
  cases rx
  cases ry
  by_cases hab : a = b
  · subst hab
    exact SeqAt.EqAt.same (A := A) (s := s) (.ref a) X.prog X.w X.xe _ ⟨(hs _ _ _ d).symm, H, I, Ext.rfl'⟩
  · refine GQ.eqBool_refG hab (wpAny_mono (h A pins s σ H (.ref a) (.ref b) bo _ _ sb I rfl rfl d) (fun r s' q => ?_) fun _ _ x => x)
    obtain ⟨hr', q⟩ := q
    exact ⟨bo, hr', rfl, q⟩
/-- dicts that are locked: whether they are equal -/
def DDictB (D : EqvB) : EqvB := fun x y r H => ∃ (a b : Addr) (oa ob : Obj) (ks ls : List (Key × V)) (f : Key → Bool), x = .ref a ∧ y = .ref b ∧ H a = some (.frz oa (.dK ks)) ∧ H b = some (.frz ob (.dK ls)) ∧ (∀ p ∈ ks, ∀ z, valV ls p.1 = some z → D p.2 z (f p.1) H) ∧ r = (decide (ks.length = ls.length) && ks.all fun p => (valV ls p.1).isSome && f p.1)
theorem rcB_dict (hD : MonB D) (h : EqB X n D) : RcB X (n + 1) (DDictB D) := by
  intro A pins s σ H x y bo u v sb I rx ry d
  obtain ⟨a, b, oa, ob, ks, ls, f, rfl, rfl, ha, hb, hp, rfl⟩ := d
  cases rx
  cases ry
  obtain ⟨nsa, ga, xa, es, ep, va, hda, za, kva, o1, es1, e1, x1, d1, ka1, pa1, na1⟩ := I.frzK ha
  obtain ⟨nsb, gb, xb, es', ep', vb, hdb, zb, kvb, o2, es2, e2, x2, d2, kb2, pb2, nb2⟩ := I.frzK hb
  rw [ga] at e1
  cases e1
  rw [gb] at e2
  cases e2
  have lka : ks.length = va.length := Paired.length kva
  have lkb : ls.length = vb.length := Paired.length kvb
  have bad : ∀ p ∈ ks, ((valV ls p.1).isSome && f p.1) = false → (decide (ks.length = ls.length) && ks.all fun p => (valV ls p.1).isSome && f p.1) = false := fun p hp' e => by
    rw [Bool.and_eq_false_iff]
    refine .inr ?_
    rw [List.all_eq_false]
    exact ⟨p, hp', by rw [e]; decide⟩
  refine DQH.rc_dictH (knd := mixKind X.prog X.w) nsa nsb xa xb d1 ka1 pa1 na1 d2 kb2 pb2 nb2 sb.room.units0 (fun i s' => LoopI X pins σ H s' ∧ ∀ (j : Nat) (p : Key × V), j < i → ks[j]? = some p → ((valV ls p.1).isSome && f p.1) = true) (fun i s' ⟨⟨H1, I1, x1⟩, _⟩ => ?_) (fun hl i k v s' hi ⟨⟨H1, I1, x1⟩, hb4⟩ => ?_) (fun hl s' ⟨q, hb4⟩ => ⟨?_, q⟩) (fun hn => ⟨?_, H, I, Ext.rfl'⟩) ⟨⟨H, I, Ext.rfl'⟩, fun j p hj => absurd hj (Nat.not_lt_zero _)⟩
  · exact ⟨(I1.frzK (x1 _ _ ha)).2.1, (I1.frzK (x1 _ _ hb)).2.1⟩
  · obtain ⟨p, hp1, hp2, hp3⟩ := kv_at kva hi
    have hmem := List.mem_of_getElem? hp1
    have rr : RelO (valV ls p.1) (valueAt vb p.1) := kvb.val p.1
    refine ⟨fun hn => ⟨?_, H1, I1, x1⟩, fun y' hy' => ?_⟩
    · rw [hp2] at rr
      have hz : valV ls k = none := by
        cases e : valV ls k with
        | none => rfl
        | some z =>
          rw [e, hn] at rr
          exact nomatch rr
      exact congrArg Value.bool (bad p hmem (by rw [hp2, hz]; rfl)).symm
    · rw [hp2, hy'] at rr
      obtain ⟨z, hz, ry⟩ : ∃ z, valV ls k = some z ∧ RelV z y' := by
        cases e : valV ls k with
        | none => rw [e] at rr; exact nomatch rr
        | some z => rw [e] at rr; exact ⟨z, rfl, rr⟩
      have hz' : valV ls p.1 = some z := by rw [hp2]; exact hz
      refine wpAny_mono (h A.in1 pins s' σ H1 p.2 z (f p.1) v y' sb.in1 I1 hp3 ry (hD _ _ _ _ _ x1 (hp p hmem z hz'))) (fun r s2 q => ?_) fun _ _ x => x
      obtain ⟨rfl, H2, I2, e2⟩ := q
      refine ⟨fun ht => ⟨⟨H2, I2, x1.trans e2⟩, fun j p' hj hp' => ?_⟩, fun hf => ⟨?_, H2, I2, x1.trans e2⟩⟩
      · rcases Nat.lt_or_ge j i with hlt | hge
        · exact hb4 j p' hlt hp'
        · have : j = i := by omega
          rw [this, hp1] at hp'
          cases hp'
          rw [hz', ht]; rfl
      · exact congrArg Value.bool (bad p hmem (by rw [hz', hf]; rfl)).symm
  · refine congrArg Value.bool ?_
    symm
    rw [Bool.and_eq_true]
    refine ⟨decide_eq_true (by omega), ?_⟩
    rw [List.all_eq_true]
    intro p hp'
    obtain ⟨j, hj⟩ := List.getElem?_of_mem hp'
    have hjl := (List.getElem?_eq_some_iff.mp hj).1
    exact hb4 j p (by omega) hj
  · refine congrArg Value.bool ?_
    symm
    rw [Bool.and_eq_false_iff]
    exact .inl (decide_eq_false (by omega))
def rEqB (D : EqvB) : R2 := fun x y H Q => ∃ b, D x y b H ∧ ∀ H', Ext H H' → Q (.bl b) H'
theorem op_eqB (h : RcB X n D) (hr : Room n X.A) : OpR X (compareOp .Eq) (rEqB D) := by
  intro pins s σ H x y v u Q I rx ry hq
  obtain ⟨b, d, q⟩ := hq
  show wpAny (model X.prog X.w) X.A (richCompare .Eq v u) (EP X pins σ Q) X.xe s
  refine wpAny_mono (h X.A pins s σ H x y b v u ⟨hr, rfl⟩ I rx ry d) (fun r s' z => ?_) fun _ _ x => x
  obtain ⟨hr', H', I', e⟩ := z
  subst hr'
  exact ⟨.bl b, H', I', rfl, q H' e⟩
end
end L2
namespace Un
open PySem L2 TL
section
variable {P : Program} {w : World} {K : PySem.W.Frag} {mg : Str → Option Value} {base : Heap}
/-! ### any values in what a form is made of -/
/-- whether a value is a series -/
inductive Sv (H : Hp) (C CF : Addr) : V → Bool → Prop where
  | ser {a : Addr} {u v : SerM.Po} : SerAt H C a u v → Sv H C CF (.ref a) true
  | non : Sv H C CF .non false
  | int {i : Int} : Sv H C CF (.int i) false
  | str {z : Str} : Sv H C CF (.str z) false
  | lst {a : Addr} {xs : List V} : H a = some (.lst xs) → Sv H C CF (.ref a) false
  | frm {a dx : Addr} {fs : List (Str × V)} : H a = some (.ins CF dx fs) → Sv H C CF (.ref a) false
theorem Sv.same {H H' : Hp} {C CF : Addr} {v : V} {b : Bool} (h : Sv H C CF v b) (s : Same H H') : Sv H' C CF v b := by
  cases h with
  | ser h => exact .ser (h.same s)
  | non => exact .non
  | int => exact .int
  | str => exact .str
  | lst h => exact .lst (s _ _ h)
  | frm h => exact .frm (s _ _ h)
theorem Sv.up {H : Hp} {C CF d : Addr} {v : V} {b : Bool} {o : HO} {kvs : List (Key × V)} (h : Sv H C CF v b) (hd : H d = some (.dK kvs)) : Sv (upd H d o) C CF v b := by
  cases h with
  | ser h => exact .ser (h.up hd noSer_dK)
  | non => exact .non
  | int => exact .int
  | str => exact .str
  | lst h => exact .lst (by rw [upd_ne (ne_of h hd (by intro z; cases z))]; exact h)
  | frm h => exact .frm (by rw [upd_ne (ne_of h hd (by intro z; cases z))]; exact h)
structure NotS (K : PySem.W.Frag) (C CF : Addr) : Prop where
  non : PySem.W.kitOne K (.type "NoneType") (.ref C) = some false
  str : PySem.W.kitOne K (.type "str") (.ref C) = some false
  frm : PySem.W.kitOne K (.ref CF) (.ref C) = some false
theorem call_isSv {X : Cx} {C CF : Addr} (c : IsS K C) (F : IsS K CF) (n : NotS K C CF) (hK : X.K = K := by rfl) : CallR X (.builtin "isinstance") (fun xs H Q => ∃ v b, xs = [v, .ref C] ∧ Sv H C CF v b ∧ Q (.bl b) H) := by
  have cs := call_isS (X := X) c hK
  subst hK
  intro pins s σ H xs us Q I r h
  obtain ⟨v, b, rfl, sv, q⟩ := h
  cases sv with
  | ser h =>
    obtain ⟨dx, x, y, z, h1, _⟩ := h
    exact cs pins s σ H _ us Q I r (.inl ⟨_, dx, _, rfl, h1, q⟩)
  | lst h => exact cs pins s σ H _ us Q I r (.inr (.inl ⟨_, _, rfl, h, q⟩))
  | int => exact cs pins s σ H _ us Q I r (.inr (.inr ⟨_, rfl, q⟩))
  | non => exact call_isi pins s σ H _ us Q I r ⟨_, _, _, _, _, rfl, .own C, .base .non, n.non, q⟩
  | str => exact call_isi pins s σ H _ us Q I r ⟨_, _, _, _, _, rfl, .own C, .base (.str _), n.str, q⟩
  | frm h => exact call_isi pins s σ H _ us Q I r ⟨_, _, _, _, _, rfl, .own C, .base (.ins h F.cl F.ha F.hn F.htk F.hm), n.frm, q⟩
/-- a dict of any values -/
structure DAny (H : Hp) (C CF d : Addr) (kvs : List (Key × V)) (sb : Key × V → Bool) : Prop where
  at_ : H d = some (.dK kvs)
  sv : ∀ p ∈ kvs, Sv H C CF p.2 (sb p)
  nd : (kvs.map (·.1)).Nodup
  l : kvs.length ≤ 100
  sl : ∀ p ∈ kvs, ∀ z, p.1 = Sum.inr z → z.length ≤ 1000
theorem DAny.same {H H' : Hp} {C CF d : Addr} {kvs : List (Key × V)} {sb : Key × V → Bool} (h : DAny H C CF d kvs sb) (s : Same H H') : DAny H' C CF d kvs sb := ⟨s _ _ h.at_, fun p hp => (h.sv p hp).same s, h.nd, h.l, h.sl⟩
def srcB (sb : Key × V → Bool) (p : Key × V) : Bool := match p.1 with
  | .inr z => nameB z && sb p
  | .inl _ => false
def boxB (sb : Key × V → Bool) (p : Key × V) : Bool := match p.1 with
  | .inr _ => false
  | .inl i => decide (0 ≤ i) && sb p
def spAreSrcG (K : PySem.W.Frag) (C CF : Addr) : Sp := fun vs H Q _ => ∃ x : V, vs = [x] ∧ ((∃ t : String, TyX K H x (.type t) ∧ kitB t "dict" = some false ∧ Q (.bl false) H) ∨ ∃ (d : Addr) (kvs : List (Key × V)) (sb : Key × V → Bool), x = .ref d ∧ DAny H C CF d kvs sb ∧ ∀ H', Same H H' → Q (.bl (kvs.all (srcB sb))) H')
def spAreBoxG (K : PySem.W.Frag) (C CF : Addr) : Sp := fun vs H Q _ => ∃ x : V, vs = [x] ∧ ((∃ t : String, TyX K H x (.type t) ∧ kitB t "dict" = some false ∧ Q (.bl false) H) ∨ ∃ (d : Addr) (kvs : List (Key × V)) (sb : Key × V → Bool), x = .ref d ∧ DAny H C CF d kvs sb ∧ ∀ H', Same H H' → Q (.bl (kvs.all (boxB sb))) H')
theorem take_all {kvs : List (Key × V)} {i : Nat} {p : Key × V} {g : Key × V → Bool} (h : kvs[i]? = some p) : (kvs.take (i + 1)).map g = (kvs.take i).map g ++ [g p] := by rw [List.take_add_one, h, List.map_append]; rfl
theorem ok_areSourcesG {f g C CF : Addr} {fd gd : FuncData} (F : Fun K "are_sources" "are_sources" sAreSources f fd) (IN : IsS K C) (INF : IsS K CF) (NS : NotS K C CF) (mC : mg "Series" = some (.ref C)) (misi : mg "isinstance" = none) (mall : mg "all" = none) (mdict : mg "dict" = none) (N : Df P w K mg base 1 g gd "is_name" ["value"] (spName K)) : FnOk P w K mg base CX0 2 f fd ["value"] (spAreSrcG K C CF) := by
  refine F.ok scAreSources (fun vs H Q E h => ?_) (fun cdv A outer s H vs Q E hr h => ?_)
  · obtain ⟨x, rfl, _⟩ := h
    rfl
  obtain ⟨x, rfl, h⟩ := h
  refine ⟨_, pss_one (ps_ret (pe_and (pe_callB call_isi (by rfl) misi (by decide +kernel) (pa_cons (pv 0) (pa_cons (pe_bltn (v := .ty "dict") (by rfl) mdict (by decide +kernel) rfl) pa_nil))) (pe_one (pe_callB (cr_all rfl) (by rfl) mall (by decide +kernel) (pa_cons
      (pe_lock (pe_lc (own := [("key", 1)]) (g := gName 1) rfl scAreSources.nd (pi_keys (pv 0)) (blkOk_by (own := [("key", 1)]) (N := ["value", "key"]) (sc := defScope sAreSources) (by decide +kernel))
        (fun _ _ _ _ _ => pg_name (i := 1) scAreSources.nd rfl (Or.inl rfl) (Or.inr rfl)) (fun _ _ _ _ _ => pts_nil)
        (fun _ _ _ _ _ => pe_and (pe_call N.ok (hr.mono (by decide)) (by rfl) N.m N.kp N.b .nil pass0 (pa_cons (pv 1) pa_nil)) (pe_one (pe_callB (call_isSv IN INF NS) (by rfl) misi (by decide +kernel) (pa_cons (pe_dget (hu_of hr) (pv 0) (pv 1) (fun _ _ => rfl)) (pa_cons (C8.pe_gc (v := .ref C) (by rfl) ⟨_, mC, rfl⟩) pa_nil))))))) pa_nil))))), ?_⟩
  rcases h with ⟨t, ty, kb, q⟩ | ⟨d, kvs, sb, rfl, T, q⟩
  · exact ⟨_, rfl, _, _, _, _, false, rfl, .ty _, ty, kit_ty kb, false, rfl, iteF q⟩
  refine ⟨_, rfl, _, _, _, _, true, rfl, .ty _, .base (.dK T.at_), kit_ty (by decide +kernel), true, rfl, iteT ?_⟩
  refine ⟨d, _, T.at_, trivial, fun od => ?_⟩
  refine ⟨.ref d, rfl, d, od, rfl, .inl ⟨kvs, upd_same, fun m hm => ?_⟩⟩
  have nm : m ≠ d := fun e => by rw [e, upd_same] at hm; cases hm
  refine lc_it walk_keys (fun i H2 => Same (upd H d (.frz od (.dK kvs))) H2 ∧ H2 m = some (.lst (((kvs.take i).map (srcB sb)).map V.bl))) ⟨same_upd hm _, upd_same⟩ (fun i H2 _ h => h.1 _ _ upd_same) ?_ ?_
  · rintro i x H2 H3 hi ⟨s2, h2⟩ ⟨rfl, k, v, hk, rfl⟩
    have hmem := List.mem_of_getElem? hk
    have ll := T.l
    have fin : ∀ H4, Same H3 H4 → ∃ acc, H4 m = some (.lst acc) ∧ acc.length < sizeLine ∧ Same (upd H d (.frz od (.dK kvs))) (upd H4 m (.lst (acc ++ [V.bl (srcB sb (k, v))]))) ∧ upd H4 m (.lst (acc ++ [V.bl (srcB sb (k, v))])) m = some (.lst (((kvs.take (i + 1)).map (srcB sb)).map V.bl)) := fun H4 s4 =>
      ⟨_, s4 _ _ h2, small1000 (by rw [List.length_map, List.length_map, List.length_take]; omega), fun b o e => by rw [upd_ne (ne_of_none e hm)]; exact s4 _ _ (s2 _ _ e), by rw [upd_same, take_all hk, List.map_append]; rfl⟩
    cases k with
    | inl j =>
      refine ⟨rfl, _, rfl, _, rfl, .inr ⟨"int", .base (.int _), by decide +kernel, fun H4 s4 => ⟨_, rfl, iteF (fin H4 s4)⟩⟩⟩
    | inr z =>
      have zl := T.sl _ hmem z rfl
      refine ⟨rfl, _, rfl, _, rfl, .inl ⟨z, rfl, zl, fun H4 s4 => ⟨_, rfl, ?_⟩⟩⟩
      have fz := fin H4 s4
      unfold srcB at fz
      cases nb : nameB z with
      | false =>
        simp only [nb, Bool.false_and] at fz
        exact iteF fz
      | true =>
        simp only [nb, Bool.true_and] at fz
        have hd4 := s4 _ _ (s2 _ _ upd_same)
        refine iteT ⟨_, rfl, _, rfl, d, _, rfl, .inl ⟨kvs, Sum.inr z, .inr ⟨_, hd4⟩, rfl, (val_nodup T.nd _ hmem).symm⟩, _, _, rfl, ((T.sv _ hmem).up (o := .frz od (.dK kvs)) T.at_).same (s2.trans s4), fz⟩
  · rintro H2 ⟨s2, h2⟩
    rw [List.take_length] at h2
    refine ⟨s2 _ _ upd_same, m, kvs.map (srcB sb), rfl, SqL.of (by rw [upd_ne nm]; exact h2), ?_⟩
    rw [List.all_map]
    exact q _ (unlock_same T.at_ s2)
theorem ok_areBoxesG {f g C CF : Addr} {fd gd : FuncData} (F : Fun K "are_boxes" "are_boxes" sAreBoxes f fd) (IN : IsS K C) (INF : IsS K CF) (NS : NotS K C CF) (mC : mg "Series" = some (.ref C)) (misi : mg "isinstance" = none) (mall : mg "all" = none) (mdict : mg "dict" = none) (N : Df P w K mg base 1 g gd "is_integer" ["value"] (spInteger K)) : FnOk P w K mg base CX0 2 f fd ["value"] (spAreBoxG K C CF) := by
  refine F.ok scAreBoxes (fun vs H Q E h => ?_) (fun cdv A outer s H vs Q E hr h => ?_)
  · obtain ⟨x, rfl, _⟩ := h
    rfl
  obtain ⟨x, rfl, h⟩ := h
  refine ⟨_, pss_cons (ps_if (pt_not (pt_val (pe_callB call_isi (by rfl) misi (by decide +kernel) (pa_cons (pv 0) (pa_cons (pe_bltn (v := .ty "dict") (by rfl) mdict (by decide +kernel) rfl) pa_nil))))) (pss_one (ps_ret pe_bl)) pss_nil)
    (pss_one (ps_ret (pe_callB (cr_all rfl) (by rfl) mall (by decide +kernel) (pa_cons
      (pe_lock (pe_lc (own := [("key", 1)]) (g := gName 1) rfl scAreBoxes.nd (pi_keys (pv 0)) (blkOk_by (own := [("key", 1)]) (N := ["value", "key"]) (sc := defScope sAreBoxes) (by decide +kernel))
        (fun _ _ _ _ _ => pg_name (i := 1) scAreBoxes.nd rfl (Or.inl rfl) (Or.inr rfl)) (fun _ _ _ _ _ => pts_nil)
        (fun _ _ _ _ _ => pe_and (pe_call N.ok (hr.mono (by decide)) (by rfl) N.m N.kp N.b .nil pass0 (pa_cons (pv 1) pa_nil)) (pe_and (pe_cmpR op_ge (pv 1) pe_int (nomark _)) (pe_one (pe_callB (call_isSv IN INF NS) (by rfl) misi (by decide +kernel) (pa_cons (pe_dget (hu_of hr) (pv 0) (pv 1) (fun _ _ => rfl)) (pa_cons (C8.pe_gc (v := .ref C) (by rfl) ⟨_, mC, rfl⟩) pa_nil)))))))) pa_nil)))), ?_⟩
  rcases h with ⟨t, ty, kb, q⟩ | ⟨d, kvs, sb, rfl, T, q⟩
  · exact ⟨_, rfl, _, _, _, _, false, rfl, .ty _, ty, kit_ty kb, _, rfl, iteT q⟩
  refine ⟨_, rfl, _, _, _, _, true, rfl, .ty _, .base (.dK T.at_), kit_ty (by decide +kernel), _, rfl, iteF ?_⟩
  refine ⟨d, _, T.at_, trivial, fun od => ?_⟩
  refine ⟨.ref d, rfl, d, od, rfl, .inl ⟨kvs, upd_same, fun m hm => ?_⟩⟩
  have nm : m ≠ d := fun e => by rw [e, upd_same] at hm; cases hm
  refine lc_it walk_keys (fun i H2 => Same (upd H d (.frz od (.dK kvs))) H2 ∧ H2 m = some (.lst (((kvs.take i).map (boxB sb)).map V.bl))) ⟨same_upd hm _, upd_same⟩ (fun i H2 _ h => h.1 _ _ upd_same) ?_ ?_
  · rintro i x H2 H3 hi ⟨s2, h2⟩ ⟨rfl, k, v, hk, rfl⟩
    have hmem := List.mem_of_getElem? hk
    have ll := T.l
    have fin : ∃ acc, H3 m = some (.lst acc) ∧ acc.length < sizeLine ∧ Same (upd H d (.frz od (.dK kvs))) (upd H3 m (.lst (acc ++ [V.bl (boxB sb (k, v))]))) ∧ upd H3 m (.lst (acc ++ [V.bl (boxB sb (k, v))])) m = some (.lst (((kvs.take (i + 1)).map (boxB sb)).map V.bl)) :=
      ⟨_, h2, small1000 (by rw [List.length_map, List.length_map, List.length_take]; omega), fun b o e => by rw [upd_ne (ne_of_none e hm)]; exact s2 _ _ e, by rw [upd_same, take_all hk, List.map_append]; rfl⟩
    cases k with
    | inr z =>
      refine ⟨rfl, _, rfl, _, "str", false, false, rfl, .base (.str _), by decide +kernel, by decide +kernel, ?_⟩
      exact ⟨_, rfl, iteF fin⟩
    | inl j =>
      refine ⟨rfl, _, rfl, _, "int", true, false, rfl, .base (.int _), by decide +kernel, by decide +kernel, ?_⟩
      refine ⟨_, rfl, iteT ?_⟩
      have hd4 := s2 _ _ upd_same
      refine ⟨_, rfl, j, 0, rfl, rfl, _, rfl, ?_⟩
      unfold boxB at fin
      by_cases hj : 0 ≤ j
      · rw [decide_eq_true hj]
        simp only [decide_eq_true hj, Bool.true_and] at fin
        refine iteT ⟨_, rfl, _, rfl, d, _, rfl, .inl ⟨kvs, Sum.inl j, .inr ⟨_, hd4⟩, rfl, (val_nodup T.nd _ hmem).symm⟩, _, _, rfl, ((T.sv _ hmem).up (o := .frz od (.dK kvs)) T.at_).same s2, fin⟩
      · rw [decide_eq_false hj]
        simp only [decide_eq_false hj, Bool.false_and] at fin
        exact iteF fin
  · rintro H2 ⟨s2, h2⟩
    rw [List.take_length] at h2
    refine ⟨s2 _ _ upd_same, m, kvs.map (boxB sb), rfl, SqL.of (by rw [upd_ne nm]; exact h2), ?_⟩
    rw [List.all_map]
    exact q _ (unlock_same T.at_ s2)
end
end Un
namespace Un
open PySem L2 TL
section
variable {P : Program} {w : World} {K : PySem.W.Frag} {mg : Str → Option Value} {base : Heap}
/-! ### the constructor that raises -/
open XV
/-- a def that answers r for x, whatever is added -/
def Asks (sp : Sp) (H : Hp) (x : V) (r : Bool) : Prop := ∀ H1, Same H H1 → ∀ Q : VK, (∀ H', Same H1 H' → Q (.bl r) H') → sp [x] H1 Q E0
theorem Asks.same {sp : Sp} {H H' : Hp} {x : V} {r : Bool} (h : Asks sp H x r) (s : Same H H') : Asks sp H' x r := fun H1 s1 => h H1 (s.trans s1)
def ArgR (sp : Sp) (H : Hp) (x : V) (r : Bool) : Prop := (x = .non ∧ r = true) ∨ (x ≠ .non ∧ Asks sp H x r)
theorem ArgR.same {sp : Sp} {H H' : Hp} {x : V} {r : Bool} (h : ArgR sp H x r) (s : Same H H') : ArgR sp H' x r := h.elim .inl fun h => .inr ⟨h.1, h.2.same s⟩
def spFormBad (sp1 sp2 : Sp) (CF CI : Addr) : Sp := fun vs H _ E => ∃ (a : Addr) (x y : V), vs = [.ref a, x, y] ∧ (ArgR sp1 H x false ∨ (ArgR sp1 H x true ∧ ArgR sp2 H y false)) ∧ XkE CI [("code", .str "InvalidForm")] H E
theorem ok_formBad {f CF CI g1 g2 g3 fU : Addr} {fd d1 d2 d3 dU : FuncData} {dvs : List V} {sp1 sp2 sp3 : Sp} {gU : List Value → List Value → List Value} (h1 : ∀ d H Q, H d = some (.dK []) → (∀ H', Same H H' → Q (.bl true) H') → sp1 [.ref d] H Q E0) (F : FunD K "__init__" "Form.__init__" (defArgs sF_init) (defBody sF_init) (defScope sF_init) dvs [] f fd) (XU : Xr P w K mg base CI 0 fU dU "InvalidForm" ["self"] (spI0 CI "InvalidForm") gU) (mmin : mg "min" = none) (G1 : Df P w K mg base 2 g1 d1 "are_sources" ["value"] sp1) (G2 : Df P w K mg base 2 g2 d2 "are_boxes" ["value"] sp2) (G3 : Df P w K mg base 1 g3 d3 "not_zero" ["table"] sp3) :
    FnOk P w K mg base (L2.CX P w) 3 f fd ["self", "sources", "boxes"] (spFormBad sp1 sp2 CF CI) := by
  refine F.ok scF_init (fun vs H Q E h => ?_) (fun cdv A outer s H vs Q E hr h => ?_)
  · obtain ⟨a, x, y, rfl, _⟩ := h
    rfl
  obtain ⟨a, x, y, rfl, bad, q⟩ := h
  refine ⟨_, (C8.pss_cut (ps_set (i := 3) scF_init.nd rfl (by first | exact Or.inl rfl | exact Or.inr rfl) (pe_ifExp (pt_cmpR op_isN (pv 1) pe_non (nomark _)) pe_dnewK (pv 1)))
 (C8.pss_cut (ps_set (i := 4) scF_init.nd rfl (by first | exact Or.inl rfl | exact Or.inr rfl) (pe_ifExp (pt_cmpR op_isN (pv 2) pe_non (nomark _)) pe_dnewK (pv 2)))
 (pss_cons (ps_if (PW.pt (pw_or (pt_not (pt_val (pe_call G1.ok (hr.mono (by decide)) (by rfl) G1.m G1.kp G1.b .nil pass0 (pa_cons (pv 3) pa_nil)))) (pw_or1 (pt_not (pt_val (pe_call G2.ok (hr.mono (by decide)) (by rfl) G2.m G2.kp G2.b .nil pass0 (pa_cons (pv 4) pa_nil)))))))
 (pss_one (ps_raise rfl (takes_of rfl rfl rfl rfl) (ExR.pmk_exo rfl (pe_mkG0 XU.x (hr.mono (by decide)) (by rfl) XU.kb))))
 pss_nil)
 (pss_cons (ps_fld (pv 0) (pe_call G3.ok (hr.mono (by decide)) (by rfl) G3.m G3.kp G3.b .nil pass0 (pa_cons (pv 3) pa_nil)) rfl)
 (pss_cons (ps_fld (pv 0) (pe_call G3.ok (hr.mono (by decide)) (by rfl) G3.m G3.kp G3.b .nil pass0 (pa_cons (pv 4) pa_nil)) rfl)
 (pss_cons (ps_set (i := 5) scF_init.nd rfl (by first | exact Or.inl rfl | exact Or.inr rfl) (pe_lst (StX.pa_star (pe_lock (by exact (pe_lc (own := [("series", 6)]) (g := (gName 6)) rfl scF_init.nd (pi_values (pe_fld (pv 0) rfl)) (blkOk_by (own := [("series", 6)]) (N := ["self", "sources", "boxes", "for_sources", "for_boxes", "orders", "series"]) (sc := defScope sF_init) (by decide +kernel)) (fun _ _ _ _ _ => (pg_name (i := 6) scF_init.nd rfl (Or.inl rfl) (Or.inr rfl))) (fun _ _ _ _ _ => pts_nil) (fun _ _ _ _ _ => (pe_fldK (K := K) rfl (pv 6) rfl))))) (StX.pa_star (pe_lock (by exact (pe_lc (own := [("series", 6)]) (g := (gName 6)) rfl scF_init.nd (pi_values (pe_fld (pv 0) rfl)) (blkOk_by (own := [("series", 6)]) (N := ["self", "sources", "boxes", "for_sources", "for_boxes", "orders", "series"]) (sc := defScope sF_init) (by decide +kernel)) (fun _ _ _ _ _ => (pg_name (i := 6) scF_init.nd rfl (Or.inl rfl) (Or.inr rfl))) (fun _ _ _ _ _ => pts_nil) (fun _ _ _ _ _ => (pe_fldK (K := K) rfl (pv 6) rfl))))) pa_nil))))
 (pss_one (ps_fld (pv 0) (pe_callBK (MnD.cr_minDf rfl (MnD.un4 hr)) (by rfl) mmin (by decide +kernel) (pa_cons (pv 5) pa_nil) (pk_cons pe_non pk_nil)) rfl)))))))), ?_⟩
  -- one argument of a def that answers
  refine ⟨fun σ H1 => ∃ x', σ = [some (.ref a), some x, some y, some x', none, none, none] ∧ Same H H1 ∧ (Asks sp1 H1 x' false ∨ (Asks sp1 H1 x' true ∧ ArgR sp2 H1 y false)), ?_, ?_⟩
  · obtain ⟨r, hx, k⟩ : ∃ r, ArgR sp1 H x r ∧ ∀ (x' : V) (H1 : Hp), Same H H1 → Asks sp1 H1 x' r → Asks sp1 H1 x' false ∨ (Asks sp1 H1 x' true ∧ ArgR sp2 H1 y false) := by
      rcases bad with b | ⟨b1, b2⟩
      · exact ⟨false, b, fun x' H1 s1 h => .inl h⟩
      · exact ⟨true, b1, fun x' H1 s1 h => .inr ⟨h, b2.same s1⟩⟩
    rcases hx with ⟨rfl, rfl⟩ | ⟨e, ha⟩
    · refine ⟨_, rfl, rfl, ?_⟩
      rw [decide_eq_true rfl]
      exact ⟨_, rfl, iteT fun p hp => ⟨_, rfl, same_upd hp _, k _ _ (same_upd hp _) fun H1 s1 Q qq => h1 p H1 Q (s1 _ _ upd_same) qq⟩⟩
    · refine ⟨_, rfl, rfl, ?_⟩
      rw [decide_eq_false e]
      exact ⟨_, rfl, iteF ⟨_, rfl, x, rfl, Same.refl _, k _ _ (Same.refl _) ha⟩⟩
  rintro σ H1 ⟨x', rfl, s1, bad⟩
  refine ⟨fun σ H2 => ∃ y', σ = [some (.ref a), some x, some y, some x', some y', none, none] ∧ Same H H2 ∧ (Asks sp1 H2 x' false ∨ (Asks sp1 H2 x' true ∧ Asks sp2 H2 y' false)), ?_, ?_⟩
  · by_cases e : y = .non
    · have b : Asks sp1 H1 x' false := bad.elim id fun h => by
        rcases h.2 with ⟨_, z⟩ | ⟨z, _⟩
        · cases z
        · exact absurd e z
      refine ⟨_, rfl, rfl, ?_⟩
      rw [decide_eq_true e]
      exact ⟨_, rfl, iteT fun p hp => ⟨_, rfl, s1.trans (same_upd hp _), .inl (b.same (same_upd hp _))⟩⟩
    · refine ⟨_, rfl, rfl, ?_⟩
      rw [decide_eq_false e]
      refine ⟨_, rfl, iteF ⟨_, rfl, y, rfl, s1, ?_⟩⟩
      rcases bad with b | ⟨b1, b2⟩
      · exact .inl b
      · rcases b2 with ⟨z, _⟩ | ⟨_, z⟩
        · exact absurd z e
        · exact .inr ⟨b1, z⟩
  rintro σ H2 ⟨y', rfl, s2, bad⟩
  rcases bad with b | ⟨b1, b2⟩
  · refine ⟨_, rfl, b _ (Same.refl _) _ fun H3 s3 => ⟨_, rfl, iteT ?_⟩⟩
    exact ⟨rfl, rfl, (by decide), fun a ha => mk_raise0 XU.x.T rfl (s2.trans s3) ha (q.from (s2.trans s3))⟩
  · refine ⟨_, rfl, b1 _ (Same.refl _) _ fun H3 s3 => ⟨_, rfl, iteF ?_⟩⟩
    refine ⟨_, rfl, b2 _ s3 _ fun H4 s4 => ⟨_, rfl, iteT ?_⟩⟩
    exact ⟨rfl, rfl, (by decide), fun a ha => mk_raise0 XU.x.T rfl (s2.trans (s3.trans s4)) ha (q.from (s2.trans (s3.trans s4)))⟩
end
end Un
namespace Un
open PySem L2 TL
section
variable {P : Program} {w : World} {K : PySem.W.Frag} {mg : Str → Option Value} {base : Heap}
/-! ### == of forms, with either answer; of a form and a series -/
open XV
def DSerB (C : Addr) : L2.EqvB := L2.DInsB C (fun a b r H => ∃ u v u' v', SerAt H C a u v ∧ SerAt H C b u' v' ∧ r = (decide (u = u') && decide (v = v')))
theorem monB_ser {C : Addr} : L2.MonB (DSerB C) := by
  rintro x y r H H' e ⟨a, b, dx, dy, fs, gs, rfl, rfl, ha, hb, u, v, u', v', h1, h2, er⟩
  exact ⟨a, b, dx, dy, fs, gs, rfl, rfl, e _ _ ha, e _ _ hb, u, v, u', v', h1.same e, h2.same e, er⟩
theorem iv_inj : ∀ {u v : SerM.Po}, iv u = iv v → u = v
  | [], [], _ => rfl
  | [], _ :: _, h => by cases h
  | _ :: _, [], h => by cases h
  | x :: u, y :: v, h => by
    injection h with h1 h2
    injection h1 with h1
    rw [h1, iv_inj h2]
theorem SerAt.uq {H : Hp} {C a : Addr} {u v u' v' : SerM.Po} (h : SerAt H C a u v) (g : SerAt H C a u' v') : u = u' ∧ v = v' := by
  obtain ⟨dx, x, y, z, h1, h2, h3, _⟩ := h
  obtain ⟨dx', x', y', z', g1, g2, g3, _⟩ := g
  rw [h1] at g1
  have e : serFs x y z = serFs x' y' z' := by
    have := Option.some.inj g1
    injection this
  have e2 := congrArg (fun l => l.map (·.2)) e
  have ex : x = x' := by
    injection e2 with e3 e4
    injection e3
  have ey : y = y' := by
    injection e2 with e3 e4
    injection e4 with e5 e6
    injection e5
  subst ex
  subst ey
  rw [h2] at g2
  rw [h3] at g3
  constructor
  · exact iv_inj (by have := Option.some.inj g2; injection this)
  · exact iv_inj (by have := Option.some.inj g3; injection this)
noncomputable def eqPB (p q : SerM.Po × SerM.Po) : Bool := @decide (EqP p q) (Classical.propDecidable _)
theorem eqPB_iff {p q : SerM.Po × SerM.Po} : eqPB p q = true ↔ EqP p q := by
  unfold eqPB
  exact @decide_eq_true_iff _ (Classical.propDecidable _)
theorem red_eqP {p q : SerM.Po × SerM.Po} {u v : SerM.Po} (h : SerM.Red p.1 p.2 u v) (g : SerM.Red q.1 q.2 u v) : EqP p q := fun x => by
  have := SerM.ev_cancel (p := v) (a := SerM.mul p.1 q.2) (b := SerM.mul q.1 p.2) (SerM.nz_of1 h.v1) (fun y => by
    rw [SerM.ev_mul, SerM.ev_mul]
    have h1 := h.eq y
    have h2 := g.eq y
    grind) x
  rw [SerM.ev_mul, SerM.ev_mul] at this
  exact this
theorem ser_eqB {H : Hp} {C a b : Addr} {p q : SerM.Po × SerM.Po} (h1 : ValU H C a p.1 p.2) (h2 : ValU H C b q.1 q.2) : DSerB C (.ref a) (.ref b) (eqPB p q) H := by
  obtain ⟨F, u, v, S, R⟩ := id h1
  obtain ⟨_, u', v', S', R'⟩ := id h2
  obtain ⟨dx, x, y, z, g1, g2⟩ := id S
  obtain ⟨dx', x', y', z', g1', g2'⟩ := id S'
  refine ⟨a, b, dx, dx', _, _, rfl, rfl, g1, g1', u, v, u', v', S, S', ?_⟩
  by_cases e : EqP p q
  · have h2' : ValU H C b p.1 p.2 := h2.eqv h1.1 fun x => (e x).symm
    obtain ⟨_, u2, v2, S2, R2⟩ := h2'
    obtain ⟨rfl, rfl⟩ := SerAt.uq S' S2
    obtain ⟨rfl, rfl⟩ := SerM.red_uniq F.q1 R R2
    rw [eqPB_iff.mpr e, decide_eq_true rfl, decide_eq_true rfl]; rfl
  · have : eqPB p q = false := by
      cases h : eqPB p q with
      | false => rfl
      | true => exact absurd (eqPB_iff.mp h) e
    rw [this]
    symm
    rw [Bool.and_eq_false_iff]
    by_cases e1 : u = u'
    · refine .inr (decide_eq_false fun e2 => e ?_)
      subst e1
      subst e2
      exact red_eqP R R'
    · exact .inl (decide_eq_false e1)
noncomputable def tabB (k1 l1 : List (Key × V)) (v1 v2 : Vf) : Bool := decide (k1.length = l1.length) && k1.all fun p => (valV l1 p.1).isSome && eqPB (v1 p.1) (v2 p.1)
theorem tabs_eqB {H : Hp} {C d1 e1 : Addr} {od oe : Obj} {k1 l1 : List (Key × V)} {v1 v2 : Vf} (hd : H d1 = some (.frz od (.dK k1))) (he : H e1 = some (.frz oe (.dK l1)))
    (s1 : ∀ p ∈ k1, ∃ a, p.2 = .ref a ∧ ValU H C a (v1 p.1).1 (v1 p.1).2) (s2 : ∀ p ∈ l1, ∃ a, p.2 = .ref a ∧ ValU H C a (v2 p.1).1 (v2 p.1).2) : L2.DDictB (DSerB C) (.ref d1) (.ref e1) (tabB k1 l1 v1 v2) H := by
  refine ⟨d1, e1, od, oe, k1, l1, fun k => eqPB (v1 k) (v2 k), rfl, rfl, hd, he, fun p hp z hz => ?_, rfl⟩
  obtain ⟨a, ea, V1⟩ := s1 p hp
  obtain ⟨b, eb, V2⟩ := s2 _ (valV_mem hz)
  have eb : z = .ref b := eb
  rw [ea, eb]
  exact ser_eqB V1 V2
theorem tabB_iff {k1 l1 : List (Key × V)} {v1 v2 : Vf} {S : Key → Prop} (f1 : ∀ k, Frac (v1 k).1 (v1 k).2 uni) (f2 : ∀ k, Frac (v2 k).1 (v2 k).2 uni) (n1 : (k1.map (·.1)).Nodup) (n2 : (l1.map (·.1)).Nodup) (ok1 : ∀ p ∈ k1, S p.1) (ok2 : ∀ p ∈ l1, S p.1) (nz1 : ∀ p ∈ k1, ¬ Zp (v1 p.1)) (nz2 : ∀ p ∈ l1, ¬ Zp (v2 p.1)) (z1 : ∀ k, S k → ¬ KeysIn k1 k → Zp (v1 k)) (z2 : ∀ k, S k → ¬ KeysIn l1 k → Zp (v2 k)) : tabB k1 l1 v1 v2 = true ↔ ∀ k, S k → EqP (v1 k) (v2 k) := by
  unfold tabB
  rw [Bool.and_eq_true, List.all_eq_true]
  constructor
  · rintro ⟨h1, h2⟩ k hk
    have len : k1.length = l1.length := of_decide_eq_true h1
    by_cases hin : KeysIn k1 k
    · obtain ⟨p, hp, rfl⟩ := List.mem_map.mp hin
      have := h2 p hp
      rw [Bool.and_eq_true] at this
      exact eqPB_iff.mp this.2
    · have sub : ∀ j, KeysIn k1 j → KeysIn l1 j := fun j hj => by
        obtain ⟨p, hp, rfl⟩ := List.mem_map.mp hj
        have := h2 p hp
        rw [Bool.and_eq_true] at this
        obtain ⟨v, hv⟩ := Option.isSome_iff_exists.mp this.1
        exact valV_in hv
      have hnl : ¬ KeysIn l1 k := fun hl => by
        have := len_sub (l := k :: k1.map (·.1)) (U := l1.map (·.1)) (List.nodup_cons.mpr ⟨hin, n1⟩) fun j hj => by
          rcases List.mem_cons.mp hj with rfl | hj
          · exact hl
          · exact sub j hj
        rw [List.length_cons, List.length_map, List.length_map] at this
        omega
      intro x
      rw [z1 k hk hin x, z2 k hk hnl x, Int.zero_mul, Int.zero_mul]
  · intro eq
    have hk := keys_iff (S := S) f1 f2 ok1 ok2 nz1 nz2 z1 z2 eq
    have h1 := len_sub (U := l1.map (·.1)) n1 fun k h => (hk k).mp h
    have h2 := len_sub (U := k1.map (·.1)) n2 fun k h => (hk k).mpr h
    rw [List.length_map, List.length_map] at h1 h2
    refine ⟨decide_eq_true (by omega), fun p hp => ?_⟩
    rw [Bool.and_eq_true]
    have kp : KeysIn k1 p.1 := List.mem_map.mpr ⟨p, hp, rfl⟩
    obtain ⟨q, hq, eq'⟩ := List.mem_map.mp ((hk p.1).mp kp)
    have eq' : q.1 = p.1 := eq'
    refine ⟨?_, eqPB_iff.mpr (eq _ (ok1 p hp))⟩
    rw [← eq', val_nodup n2 q hq]; rfl
theorem call_isF2 {X : Cx} {C CF : Addr} (c : IsS K CF) (S : IsS K C) (nf : PySem.W.kitOne K (.ref C) (.ref CF) = some false) (hK : X.K = K := by rfl) : CallR X (.builtin "isinstance") (fun xs H Q => ∃ b dx fs, xs = [.ref b, .ref CF] ∧ ((H b = some (.ins CF dx fs) ∧ Q (.bl true) H) ∨ (H b = some (.ins C dx fs) ∧ Q (.bl false) H))) := by
  have cs := call_isS (X := X) c hK
  subst hK
  intro pins s σ H xs us Q I r h
  obtain ⟨b, dx, fs, rfl, ⟨hb, q⟩ | ⟨hb, q⟩⟩ := h
  · exact cs pins s σ H _ us Q I r (.inl ⟨_, dx, _, rfl, hb, q⟩)
  · exact call_isi pins s σ H _ us Q I r ⟨_, _, _, _, _, rfl, .own CF, .base (.ins hb S.cl S.ha S.hn S.htk S.hm), nf, q⟩
def spEqFB (C CF : Addr) : Sp := fun vs H Q _ => (∃ (a b dy : Addr) (gs : List (Str × V)), vs = [.ref a, .ref b] ∧ H b = some (.ins C dy gs) ∧ Q (.bl false) H) ∨ ∃ (a b dx d1 d2 dy e1 e2 : Addr) (o o' : V) (U1 U2 : List Key) (k1 k2 l1 l2 : List (Key × V)) (v1 v2 : Vf), vs = [.ref a, .ref b] ∧ FormR H C CF a dx d1 d2 o U1 k1 k2 v1 ∧ FormR H C CF b dy e1 e2 o' U2 l1 l2 v2 ∧ d1 ≠ e1 ∧ d2 ≠ e2 ∧ ∀ (r : Bool) H', Same H H' → (r = true ↔ ∀ k, (SrcK k ∨ BoxK k) → EqP (v1 k) (v2 k)) → Q (.bl r) H'
theorem ok_eqFB {f C CF g : Addr} {fd gd : FuncData} (F : Fun K "__eq__" "Form.__eq__" sF_eq f fd) (C' : FrmC K CF) (INF : IsS K CF) (IN : IsS K C) (nf : PySem.W.kitOne K (.ref C) (.ref CF) = some false) (mF : mg "Form" = some (.ref CF)) (misi : mg "isinstance" = none) (ME : OwnX.OMt P w K mg base C 1 g gd "__eq__" ["self", "other"] (spEqS C)) : FnOk P w K mg base CX0 4 f fd frmOp (spEqFB C CF) := by
  refine F.ok scF_eq (fun vs H Q E h => ?_) (fun cdv A outer s H vs Q E hr h => ?_)
  · rcases h with ⟨a, b, dy, gs, rfl, _⟩ | ⟨a, b, dx, d1, d2, dy, e1, e2, o, o', U1, U2, k1, k2, l1, l2, v1, v2, rfl, _⟩ <;> rfl
  have ES : FnOk P w K mg base CX0 1 g gd ["self", "other"] (L2.spEqB fun a b r H => ∃ u v u' v', SerAt H C a u v ∧ SerAt H C b u' v' ∧ r = (decide (u = u') && decide (v = v'))) := ME.ok.imp fun vs H Q E h => by
    obtain ⟨a, b, r, rfl, ⟨u, v, u', v', h1, h2, rfl⟩, q⟩ := h
    exact .inl ⟨a, b, u, v, u', v', rfl, h1, h2, q H Ext.rfl'⟩
  have OP : ∀ {X : Cx}, Room 2 X.A → X.prog = P → X.w = w → X.K = K → X.mg = mg → X.base = base → OpR X (compareOp .Eq) (L2.rEqB (L2.DDictB (DSerB C))) := fun {X} hr e1 e2 e3 e4 e5 => by
    subst e1; subst e2; subst e3; subst e4; subst e5
    exact L2.op_eqB (L2.rcB_dict monB_ser (L2.RcB.eqB (L2.rcB_ins ES ME.mt.at_ ME.mt.fn ME.b pass0) (by
      rintro x y b H ⟨a, b, dx, dy, fs, gs, rfl, rfl, _⟩
      exact ⟨a, b, rfl, rfl⟩) (by
      rintro a b H ⟨a', b', dx, dy, fs, gs, e1, e2, _, _, u, v, u', v', h1, h2, rfl⟩
      cases e1
      cases e2
      obtain ⟨rfl, rfl⟩ := SerAt.uq h1 h2
      rw [decide_eq_true rfl, decide_eq_true rfl]; rfl))) hr
  refine ⟨_, (pss_one (ps_ret (pe_and (pe_callB (call_isF2 INF IN nf) (by rfl) misi (by decide +kernel) (pa_cons (pv 1) (pa_cons (C8.pe_gc (v := .ref CF) (by rfl) ⟨_, mF, rfl⟩) pa_nil))) (pe_and (pe_lock (pe_lock (pe_cmpR (OP (hr.mono (by decide)) rfl rfl rfl rfl rfl) (pe_fld (pv 0) rfl) (pe_fld (pv 1) rfl) (nomark _)))) (pe_one (pe_lock (pe_lock (pe_cmpR (OP (hr.mono (by decide)) rfl rfl rfl rfl rfl) (pe_fld (pv 0) rfl) (pe_fld (pv 1) rfl) (nomark _))))))))), ?_⟩
  rcases h with ⟨a, b, dy, gs, rfl, hb, q⟩ | ⟨a, b, dx, d1, d2, dy, e1, e2, o, o', U1, U2, k1, k2, l1, l2, v1, v2, rfl, R1, R2, nd1, nd2, q⟩
  · exact ⟨.ref b, rfl, b, dy, gs, rfl, .inr ⟨hb, false, rfl, iteF q⟩⟩
  refine ⟨.ref b, rfl, b, dy, _, rfl, .inl ⟨R2.ha, true, rfl, iteT ?_⟩⟩
  -- the sources
  refine ⟨d1, _, R1.t1.at_, trivial, fun od => ?_⟩
  have h1e : upd H d1 (.frz od (.dK k1)) e1 = some (.dK l1) := by rw [upd_ne nd1.symm]; exact R2.t1.at_
  refine ⟨e1, _, h1e, trivial, fun oe => ?_⟩
  have hne : ∀ {x : Addr} {cx : Addr} {fs : List (Str × V)} {d : Addr} {ks : List (Key × V)}, H x = some (.ins CF cx fs) → H d = some (.dK ks) → x ≠ d := fun h1 h2 e => by rw [e, h2] at h1; cases h1
  have ha : ∀ x fs cx, H x = some (.ins CF cx fs) → upd (upd H d1 (.frz od (.dK k1))) e1 (.frz oe (.dK l1)) x = some (.ins CF cx fs) := fun x fs cx hx => by
    rw [upd_ne (hne hx R2.t1.at_), upd_ne (hne hx R1.t1.at_)]; exact hx
  refine ⟨_, rfl, a, CF, dx, _, _, rfl, ha _ _ _ R1.ha, C'.cl, C'.s, rfl, _, rfl, b, CF, dy, _, _, rfl, ha _ _ _ R2.ha, C'.cl, C'.s, rfl, ?_⟩
  have up2 : ∀ {x : Addr} {P' Q' : SerM.Po}, ValU H C x P' Q' → ValU (upd (upd H d1 (.frz od (.dK k1))) e1 (.frz oe (.dK l1))) C x P' Q' := fun h => (h.up R1.t1.at_ noSer_dK).up h1e noSer_dK
  have i1 : tabB k1 l1 v1 v2 = true ↔ ∀ k, SrcK k → EqP (v1 k) (v2 k) := tabB_iff R1.fr R2.fr R1.t1.nd R2.t1.nd (fun p hp => src_ok (R1.n1 p hp)) (fun p hp => src_ok (R2.n1 p hp)) R1.nz1 R2.nz1 R1.z1 R2.z1
  have i2 : tabB k2 l2 v1 v2 = true ↔ ∀ k, BoxK k → EqP (v1 k) (v2 k) := tabB_iff R1.fr R2.fr R1.t2.nd R2.t2.nd (fun p hp => box_ok (R1.n2 p hp)) (fun p hp => box_ok (R2.n2 p hp)) R1.nz2 R2.nz2 R1.z2 R2.z2
  refine ⟨_, tabs_eqB (od := od) (oe := oe) (v1 := v1) (v2 := v2) (by rw [upd_ne nd1]; exact upd_same) upd_same (fun p hp => ?_) (fun p hp => ?_), fun H3 x3 => ?_⟩
  · obtain ⟨x, ex, hx⟩ := R1.t1.ser p hp
    exact ⟨x, ex, up2 hx⟩
  · obtain ⟨x, ex, hx⟩ := R2.t1.ser p hp
    exact ⟨x, ex, up2 hx⟩
  have s3 : Same (upd H d1 (.frz od (.dK k1))) (upd H3 e1 (.dK l1)) := unlock_same h1e x3
  refine ⟨x3 _ _ upd_same, s3 _ _ upd_same, ?_⟩
  have s4 : Same H (upd (upd H3 e1 (.dK l1)) d1 (.dK k1)) := unlock_same R1.t1.at_ s3
  generalize upd (upd H3 e1 (.dK l1)) d1 (.dK k1) = H4 at s4 ⊢
  cases hb1 : tabB k1 l1 v1 v2 with
  | false =>
    rw [hb1] at i1
    refine ⟨false, rfl, iteF (q false H4 s4 ⟨fun h => (by cases h), fun h => ?_⟩)⟩
    exact i1.mpr fun k hk => h k (.inl hk)
  | true =>
  rw [hb1] at i1
  have i1 := i1.mp rfl
  refine ⟨true, rfl, iteT ?_⟩
  have R1 := R1.same s4
  have R2 := R2.same s4
  clear hne ha up2
  -- the boxes
  refine ⟨d2, _, R1.t2.at_, trivial, fun od => ?_⟩
  have h1e : upd H4 d2 (.frz od (.dK k2)) e2 = some (.dK l2) := by rw [upd_ne nd2.symm]; exact R2.t2.at_
  refine ⟨e2, _, h1e, trivial, fun oe => ?_⟩
  have hne : ∀ {x : Addr} {cx : Addr} {fs : List (Str × V)} {d : Addr} {ks : List (Key × V)}, H4 x = some (.ins CF cx fs) → H4 d = some (.dK ks) → x ≠ d := fun h1 h2 e => by rw [e, h2] at h1; cases h1
  have ha : ∀ x fs cx, H4 x = some (.ins CF cx fs) → upd (upd H4 d2 (.frz od (.dK k2))) e2 (.frz oe (.dK l2)) x = some (.ins CF cx fs) := fun x fs cx hx => by
    rw [upd_ne (hne hx R2.t2.at_), upd_ne (hne hx R1.t2.at_)]; exact hx
  refine ⟨_, rfl, a, CF, dx, _, _, rfl, ha _ _ _ R1.ha, C'.cl, C'.b, rfl, _, rfl, b, CF, dy, _, _, rfl, ha _ _ _ R2.ha, C'.cl, C'.b, rfl, ?_⟩
  have up2 : ∀ {x : Addr} {P' Q' : SerM.Po}, ValU H4 C x P' Q' → ValU (upd (upd H4 d2 (.frz od (.dK k2))) e2 (.frz oe (.dK l2))) C x P' Q' := fun h => (h.up R1.t2.at_ noSer_dK).up h1e noSer_dK
  refine ⟨_, tabs_eqB (od := od) (oe := oe) (v1 := v1) (v2 := v2) (by rw [upd_ne nd2]; exact upd_same) upd_same (fun p hp => ?_) (fun p hp => ?_), fun H5 x5 => ?_⟩
  · obtain ⟨x, ex, hx⟩ := R1.t2.ser p hp
    exact ⟨x, ex, up2 hx⟩
  · obtain ⟨x, ex, hx⟩ := R2.t2.ser p hp
    exact ⟨x, ex, up2 hx⟩
  have s5 : Same (upd H4 d2 (.frz od (.dK k2))) (upd H5 e2 (.dK l2)) := unlock_same h1e x5
  refine ⟨x5 _ _ upd_same, s5 _ _ upd_same, ?_⟩
  exact q _ _ (s4.trans (unlock_same R1.t2.at_ s5)) (i2.trans ⟨fun h k hk => hk.elim (i1 k) (h k), fun h k hk => h k (.inr hk)⟩)
/-! ### source, box of odd values; repr -/
theorem frac0 : Frac [] [1] uni := ⟨by decide, by decide, fun i => by rw [SerM.co_nil]; decide, fun i => by
    cases i with
    | zero => decide
    | succ i => rw [SerM.co_len (by show 1 ≤ i + 1; omega)]; decide, rfl⟩
def spSourceO (K : PySem.W.Frag) (C : Addr) : Sp := fun vs H Q _ => ∃ (a : Addr) (v : V) (t : String), vs = [.ref a, v] ∧ TyX K H v (.type t) ∧ kitB t "str" = some false ∧ ∀ b H', Same H H' → ValU H' C b [] [1] → Q (.ref b) H'
def spBoxO (K : PySem.W.Frag) (C : Addr) : Sp := fun vs H Q _ => ∃ (a : Addr) (v : V) (t : String) (bi bb : Bool), vs = [.ref a, v] ∧ TyX K H v (.type t) ∧ kitB t "int" = some bi ∧ kitB t "bool" = some bb ∧ (bi && !bb) = false ∧ ∀ b H', Same H H' → ValU H' C b [] [1] → Q (.ref b) H'
theorem ok_sourceO {f C g fI : Addr} {fd gd dI : FuncData} {d : V} {dv : List Value} (F : Fun K "source" "Form.source" sF_source f fd) (MS : MakS P w K mg base C fI dI d dv) (GN : Df P w K mg base 1 g gd "is_name" ["value"] (spName K)) : FnOk P w K mg base CX0 7 f fd ["self", "name"] (spSourceO K C) := by
  refine F.ok scF_source (fun vs H Q E h => ?_) (fun cdv A outer s H vs Q E hr h => ?_)
  · obtain ⟨a, v, t, rfl, _⟩ := h
    rfl
  obtain ⟨a, v, t, rfl, ty, kb, q⟩ := h
  refine ⟨_, (pss_one (ps_ret (pe_ifExp (PW.pt (pw_and (pt_val (pe_call GN.ok (hr.mono (by decide)) (by rfl) GN.m GN.kp GN.b .nil pass0 (pa_cons (pv 1) pa_nil))) (pw_and1 (pt_cmp (pc_din (hu_of hr) (pv 1) (pe_fld (pv 0) rfl)))))) (pe_dget (hu_of hr) (pe_fld (pv 0) rfl) (pv 1) (fun _ _ => rfl)) (pe_make MS.mkS MS.ok (hr.mono (by decide)) (by rfl) MS.m MS.b1 MS.dS pass0 (pa_cons (pe_lst pa_nil) pa_nil))))), ?_⟩
  refine ⟨_, rfl, _, rfl, .inr ⟨t, ty, kb, fun H1 s1 => ⟨_, rfl, iteF ?_⟩⟩⟩
  refine ⟨(by show 0 ≤ sizeLine; decide), fun l hl => ?_⟩
  have s2 := same_upd hl (.lst [])
  have h2 : upd H1 l (.lst []) l = some (.lst (iv [])) := upd_same
  generalize upd H1 l (.lst []) = H2 at s2 h2 ⊢
  intro b dx hb hdx ne
  exact zero_made (C := C) (v := ([], [1])) hb hdx ne (RowV.lst h2) (MS.row _) frac0 (fun x => rfl) fun H' s3 V' => q b H' ((s1.trans s2).trans s3) V'
theorem ok_boxO {f C g fI : Addr} {fd gd dI : FuncData} {d : V} {dv : List Value} (F : Fun K "box" "Form.box" sF_box f fd) (MS : MakS P w K mg base C fI dI d dv) (GI : Df P w K mg base 1 g gd "is_integer" ["value"] (spInteger K)) : FnOk P w K mg base CX0 7 f fd ["self", "index"] (spBoxO K C) := by
  refine F.ok scF_box (fun vs H Q E h => ?_) (fun cdv A outer s H vs Q E hr h => ?_)
  · obtain ⟨a, v, t, bi, bb, rfl, _⟩ := h
    rfl
  obtain ⟨a, v, t, bi, bb, rfl, ty, k1, k2, eb, q⟩ := h
  refine ⟨_, (pss_one (ps_ret (pe_ifExp (PW.pt (pw_and (pt_val (pe_call GI.ok (hr.mono (by decide)) (by rfl) GI.m GI.kp GI.b .nil pass0 (pa_cons (pv 1) pa_nil))) (pw_and1 (pt_cmp (pc_din (hu_of hr) (pv 1) (pe_fld (pv 0) rfl)))))) (pe_dget (hu_of hr) (pe_fld (pv 0) rfl) (pv 1) (fun _ _ => rfl)) (pe_make MS.mkS MS.ok (hr.mono (by decide)) (by rfl) MS.m MS.b1 MS.dS pass0 (pa_cons (pe_lst pa_nil) pa_nil))))), ?_⟩
  refine ⟨_, rfl, _, t, bi, bb, rfl, ty, k1, k2, _, rfl, ?_⟩
  rw [eb]
  refine iteF ?_
  refine ⟨(by show 0 ≤ sizeLine; decide), fun l hl => ?_⟩
  have s2 := same_upd hl (.lst [])
  have h2 : upd H l (.lst []) l = some (.lst (iv [])) := upd_same
  generalize upd H l (.lst []) = H2 at s2 h2 ⊢
  intro b dx hb hdx ne
  exact zero_made (C := C) (v := ([], [1])) hb hdx ne (RowV.lst h2) (MS.row _) frac0 (fun x => rfl) fun H' s3 V' => q b H' (s2.trans s3) V'
end
end Un
namespace Un
open PySem L2 TL
section
variable {P : Program} {w : World} {K : PySem.W.Frag} {mg : Str → Option Value} {base : Heap}
/-! ### repr of a form -/
abbrev sF_repr : Stmt := inClass sForm 13
theorem scF_repr : FnScope ["self", "sources"] ["self"] (defScope sF_repr) := ⟨rfl, rfl, rfl, by decide +kernel, rfl, by decide +kernel, by decide +kernel⟩
def reprF (zs : List Str) (n : Nat) : Str := "Form(" ++ (if zs = [] then ("-" : Str) else Txt.join " " zs) ++ ", " ++ toString (n : Int) ++ " boxes)"
def spReprF (C CF : Addr) : Sp := fun vs H Q _ => ∃ (a : Addr) (U : List Key) (val : Vf), vs = [.ref a] ∧ FormV H C CF a U val ∧ ∀ (zs : List Str) (n : Nat) H', Same H H' → SrcL U val zs → (∀ ys, BoxL U val ys → ys.length = n) → Q (.str (reprF zs n)) H'
theorem nodup_inl {zs : List Int} (h : (zs.map Sum.inl : List Key).Nodup) : zs.Nodup := (List.pairwise_map.mp h).imp fun h e => h (congrArg _ e)
theorem join_okN {ws : List Str} (l : ws.length ≤ 40) (h : ∀ z ∈ ws, IsNm z) : (ws.map (·.length)).sum + ws.length * ((" " : String) : Str).length ≤ 16777216 := by
  have h1 := lo_sum fun z hz => Nat.le_trans (h z hz).l4 (by decide)
  have e1 : ((" " : String) : Str).length = 1 := by decide +kernel
  rw [e1]
  omega
theorem len_small : ∀ n : Fin 101, (((toString ((n.val : Nat) : Int)) : String) : Str).length ≤ 3 := by decide +kernel
theorem ok_reprF {f C CF fs' : Addr} {fd ds : FuncData} (F : Fun K "__repr__" "Form.__repr__" sF_repr f fd) (C' : FrmC K CF) (mlen : mg "len" = none) (MSs : Mt P w K mg base CF 1 fs' ds "sources" ["self"] (spSourcesF C CF)) : FnOk P w K mg base CX0 2 f fd ["self"] (spReprF C CF) := by
  refine F.ok scF_repr (fun vs H Q E h => ?_) (fun cdv A outer s H vs Q E hr h => ?_)
  · obtain ⟨a, U, val, rfl, _⟩ := h
    rfl
  obtain ⟨a, U, val, rfl, ⟨dx, d1, d2, o, k1, k2, R⟩, q⟩ := h
  obtain ⟨zs, ez⟩ := names_of R.n1
  obtain ⟨is, ei⟩ := nums_of R.n2
  have hn : ∀ ys, BoxL U val ys → ys.length = k2.length := fun ys h => by
    have p : ys.Perm is := (List.perm_ext_iff_of_nodup h.nd (nodup_inl (by rw [← ei]; exact R.t2.nd))).mpr fun z => by
      rw [h.iff]
      have e0 : z ∈ is ↔ KeysIn k2 (Sum.inl z) := by
        unfold KeysIn
        rw [ei]
        exact ⟨fun h => List.mem_map.mpr ⟨z, h, rfl⟩, fun h => by obtain ⟨y, hy, ey⟩ := List.mem_map.mp h; cases ey; exact hy⟩
      rw [e0]
      constructor
      · exact fun n => Classical.byContradiction fun m => n (R.z2 _ ⟨z, rfl⟩ m)
      · intro hk
        obtain ⟨p, hp, ep⟩ := List.mem_map.mp hk
        rw [← ep]; exact R.nz2 p hp
    rw [p.length_eq]
    have := congrArg List.length ei
    rw [List.length_map, List.length_map] at this
    exact this.symm
  have kl := R.t2.l
  refine ⟨_, (pss_cons (ps_set (i := 1) scF_repr.nd rfl (by first | exact Or.inl rfl | exact Or.inr rfl) (pe_ifExp (pt_truth (pe_fld (pv 0) rfl) (fun _ => rfl)) (pe_join pe_str (pe_meth0 (pv 0) C'.cl MSs.mt MSs.ok (hr.mono (by decide)) MSs.b .nil pass0)) pe_str))
 (pss_one (ps_ret (pe_joined (.cons pe_str (.cons (pe_fmt (pv 1)) (.cons pe_str (.cons (pe_fmt (pe_callB call_lenD (by rfl) mlen PySem.boot_len (pa_cons (pe_fld (pv 0) rfl) pa_nil))) (.cons pe_str .nil))))))))), ?_⟩
  refine ⟨_, rfl, a, CF, dx, _, _, rfl, R.ha, C'.cl, C'.s, rfl, _, .inr (.inr ⟨k1, R.t1.at_, rfl⟩), ?_⟩
  have L5 : ∀ {n : Nat}, n ≤ 1000 → n ≤ sizeLine := fun h => Nat.le_trans h (by decide)
  have e0 : Str.empty ++ ("Form(" : Str) = "Form(" := by decide +kernel
  have c1 : ((Str.empty : Str) ++ ("Form(" : Str)).length = 5 := by decide +kernel
  have c2 : ((", " : String) : Str).length = 2 := by decide +kernel
  have c3 : ((" boxes)" : String) : Str).length = 7 := by decide +kernel
  have hk : (((toString ((k2.length : Nat) : Int)) : String) : Str).length ≤ 3 := len_small ⟨k2.length, by omega⟩
  have hlog : (k2.length : Int).natAbs.log2 < 1920 := by
    refine Nat.lt_of_le_of_lt (Nat.log2_le_self _) ?_
    omega
  cases k1 with
  | nil =>
    refine iteF ⟨_, rfl, ?_⟩
    have c0 : (("-" : String) : Str).length = 1 := by decide +kernel
    refine ⟨L5 (by rw [c1]; decide), _, rfl, .inl ⟨_, rfl, L5 (by omega), _, rfl, L5 (by rw [Str.length_append, c1]; omega), _, rfl, L5 (by rw [Str.length_append, Str.length_append, c1, c2]; omega), _, rfl, a, CF, dx, _, _, rfl, R.ha, C'.cl, C'.b, rfl, d2, k2, rfl, R.t2.at_, .inr ⟨_, rfl, hlog, _, rfl, L5 (by rw [Str.length_append, Str.length_append, Str.length_append, c1, c2]; omega), _, rfl, L5 (by rw [Str.length_append, Str.length_append, Str.length_append, Str.length_append, c1, c2, c3]; omega), ?_⟩⟩⟩
    have := q [] k2.length H (Same.refl _) (srcl_of R (zs := []) (ys := []) rfl (List.Perm.refl _) rfl) hn
    unfold reprF at this
    rw [if_pos rfl, ← e0] at this
    exact this
  | cons p r =>
    refine iteT ?_
    refine ⟨⟨_, rfl⟩, _, rfl, a, dx, _, rfl, R.ha, rfl, a, U, val, rfl, ⟨dx, d1, d2, o, _, k2, R⟩, fun l ys H1 s1 hl h1 S => ?_⟩
    refine ⟨" ", l, ys, rfl, rfl, .inl (SqL.of h1), join_okN S.l S.nm, _, rfl, ?_⟩
    have R := R.same s1
    have hj := join_len (l := ys) (n := 40) ⟨S.l, fun z hz => Nat.le_trans (S.nm z hz).l4 (by decide)⟩
    refine ⟨L5 (by rw [c1]; decide), _, rfl, .inl ⟨_, rfl, L5 (by omega), _, rfl, L5 (by rw [Str.length_append, c1]; omega), _, rfl, L5 (by rw [Str.length_append, Str.length_append, c1, c2]; omega), _, rfl, a, CF, dx, _, _, rfl, R.ha, C'.cl, C'.b, rfl, d2, k2, rfl, R.t2.at_, .inr ⟨_, rfl, hlog, _, rfl, L5 (by rw [Str.length_append, Str.length_append, Str.length_append, c1, c2]; omega), _, rfl, L5 (by rw [Str.length_append, Str.length_append, Str.length_append, Str.length_append, c1, c2, c3]; omega), ?_⟩⟩⟩
    have := q ys k2.length H1 s1 S hn
    have ne : ys ≠ [] := fun e => by
      obtain ⟨z, ez, _⟩ := R.n1 p List.mem_cons_self
      have : z ∈ ys := (S.iff z).mpr (by rw [← ez]; exact R.nz1 p List.mem_cons_self)
      rw [e] at this
      cases this
    unfold reprF at this
    rw [if_neg ne, ← e0] at this
    exact this
end
end Un
/-! ### d.clear() -/
namespace OwnX
open PySem PySem.Spec PyProof.Rows L2 TL
theorem mt_dclear {X : Cx} : MtR X "dict.clear" (fun x xs H Q => ∃ (a : Addr) (kvs : List (L2.Key × V)), x = .ref a ∧ xs = [] ∧ H a = some (.dK kvs) ∧ Q .non (upd H a (.dK []))) := by
  intro pins s σ H x xs v us Q I rx rxs h
  obtain ⟨a, kvs, rfl, rfl, ha, q⟩ := h
  cases rx
  cases rxs
  obtain ⟨z, hd, vs, rel, dd⟩ := dk_of I.hok ha
  obtain ⟨o, es, ep, ho, hx, hdat, hk, hp, hn⟩ := id dd
  have hsz : es.size ≤ sizeLine := by
    have h1 : kvs.length = vs.length := Paired.length rel
    have h2 : es.toList.length = vs.length := hp.length
    rw [Array.length_toList] at h2
    omega
  refine call_meetsIn PySem.F.slot_dict_clear dd.typeIs PySem.F.entry_dict_clear (PySem.F.args_dict_clear_1 _) (meets_dict_clear_raw a) ⟨es, ep, ⟨o, ho, hx, hdat⟩, hsz, fun h' hr' hs' => ?_⟩
  obtain ⟨o', ho', hx', hdat'⟩ := hr'
  refine ⟨.non, _, d_write (t' := s.toks) (ob := .dK []) I (by rw [ha]; exact True.intro) hs' ⟨_, ho'⟩ (dk_new (Nat.zero_le _) hd .nil ⟨o', #[], ep + 1, ho', hx', hdat', ?_, ?_, List.nodup_nil⟩), rfl, q⟩
  · exact fun e he => absurd he (by simp)
  · exact .nil
end OwnX
namespace Un
open PySem L2 TL
section
variable {P : Program} {w : World} {K : PySem.W.Frag} {mg : Str → Option Value} {base : Heap}
/-! ### the first answers -/
def EqL (H : Hp) (n : Nat) : List V → List V → Prop
  | [], [] => True
  | x :: xs, y :: ys => Eqv H n x y ∧ EqL H n xs ys
  | _, _ => False
theorem EqL.at_ {H : Hp} {n : Nat} : ∀ {xs ys : List V}, EqL H n xs ys → xs.length = ys.length ∧ ∀ (i : Nat) (u v : V), xs[i]? = some u → ys[i]? = some v → Eqv H n u v
  | [], [], _ => ⟨rfl, fun i u v h => by simp at h⟩
  | x :: xs, y :: ys, ⟨h, r⟩ => by
    obtain ⟨h1, h2⟩ := EqL.at_ r
    refine ⟨by rw [List.length_cons, List.length_cons, h1], fun i u v hu hv => ?_⟩
    cases i with
    | zero =>
      cases hu
      cases hv
      exact h
    | succ i => exact h2 i u v hu hv
  | [], _ :: _, h => h.elim
  | _ :: _, [], h => h.elim
theorem eqv_lst {H : Hp} {a b : Addr} {xs ys : List V} {n : Nat} (ha : H a = some (.lst xs)) (hb : H b = some (.lst ys)) (h : EqL H n xs ys) (hl : xs.length ≤ 100000) : Eqv H (n + 1) (.ref a) (.ref b) :=
  .inr ⟨a, b, xs, ys, rfl, rfl, h.at_.1, hl, .inl ⟨ha, hb⟩, h.at_.2⟩
/-! ### the law: odd values; whether a form copies -/
abbrev sOdd : Stmt := top 54
theorem scOdd : FnScope ["_law_bag_here", "_law_more"] ["_law_bag_here", "_law_more"] (defScope sOdd) := ⟨rfl, rfl, rfl, by decide +kernel, rfl, by decide +kernel, by decide +kernel⟩
/-- a wrong value, as `_law_odd` draws it -/
inductive OddB (b : Addr) (H : Hp) : V → Prop where
  | non : OddB b H .non
  | bl {x : Bool} : OddB b H (.bl x)
  | e0 : OddB b H (.str "")
  | e1 : OddB b H (.str "A")
  | e5 : OddB b H (.str "abcde")
  | int {i : Int} : OddB b H (.int i)
  | t2 {a : Addr} : H a = some (.tup [.int 1, .str "a"]) → OddB b H (.ref a)
  | l1 {a : Addr} : a ≠ b → H a = some (.lst [.int 1]) → OddB b H (.ref a)
  | t0 {a : Addr} : H a = some (.tup []) → OddB b H (.ref a)
theorem OddB.kp {b c : Addr} {H H' : Hp} {x : V} (h : OddB b H x) (B : Bag H b c) (k : Kp b H H') : OddB b H' x := by
  cases h with
  | non => exact .non
  | bl => exact .bl
  | e0 => exact .e0
  | e1 => exact .e1
  | e5 => exact .e5
  | int => exact .int
  | t2 h => exact .t2 (k.tups B _ _ h)
  | l1 n h => exact .l1 n (k _ _ h n)
  | t0 h => exact .t0 (k.tups B _ _ h)
def spOdd : Sp := fun vs H Q _ => ∃ (b c m : Addr) (ms : List V), vs = [.ref b, .ref m] ∧ Bag H b c ∧ m ≠ b ∧ H m = some (.lst ms) ∧ ms.length ≤ 100 ∧ ∀ (y : V) (H' : Hp), OddB b H' y ∨ y ∈ ms → Bag H' b c → Kp b H H' → Q y H'
theorem ok_odd {f ga : Addr} {fd ad : FuncData} (F : Fun K "_law_odd" "_law_odd" sOdd f fd) (GA : Df P w K mg base 2 ga ad "_law_any" ["_law_bag_here", "_law_things"] (spAny K)) : FnOk P w K mg base CX0 3 f fd ["_law_bag_here", "_law_more"] spOdd := by
  refine F.ok scOdd (fun vs H Q E h => ?_) (fun cdv A outer s H vs Q E hr h => ?_)
  · obtain ⟨b, c, m, ms, rfl, _⟩ := h
    rfl
  obtain ⟨b, c, m, ms, rfl, B, nm, hm, ml, q⟩ := h
  refine ⟨_, (pss_one (ps_ret (pe_call GA.ok (hr.mono (by decide)) (by rfl) GA.m GA.kp GA.b .nil pass0 (pa_cons (pv 0) (pa_cons (pe_op op_cat (pe_lst (pa_cons pe_non (pa_cons pe_bl (pa_cons pe_bl (pa_cons pe_str (pa_cons pe_str (pa_cons pe_str (pa_cons (pe_un un_neg pe_int) (pa_cons (pe_op op_pow pe_int pe_int) (pa_cons (pe_tup (pa_cons pe_int (pa_cons pe_str pa_nil))) (pa_cons (pe_lst (pa_cons pe_int pa_nil)) (pa_cons (pe_tup pa_nil) pa_nil)))))))))))) (pv 1)) pa_nil))))), ?_⟩
  refine ⟨.ref b, rfl, _, rfl, 10, 5, rfl, rfl, ⟨by decide, by decide, by decide⟩, (by show 2 ≤ sizeLine; decide), fun a1 h1 => ⟨(by show 1 ≤ sizeLine; decide), fun a2 h2 => ⟨(by show 0 ≤ sizeLine; decide), fun a3 h3 => ⟨(by show 11 ≤ sizeLine; decide), fun l hl => ?_⟩⟩⟩⟩
  have q1 := same_upd h1 (.tup [.int 1, .str "a"])
  have e1 : upd H a1 (.tup [.int 1, .str "a"]) a1 = some (.tup [.int 1, .str "a"]) := upd_same
  generalize upd H a1 (.tup [.int 1, .str "a"]) = H1 at q1 e1 h2 h3 hl ⊢
  have q2 := same_upd h2 (.lst [.int 1])
  have e2 : upd H1 a2 (.lst [.int 1]) a2 = some (.lst [.int 1]) := upd_same
  have n2 : a2 ≠ b := (B.same q1).fresh h2
  generalize upd H1 a2 (.lst [.int 1]) = H2 at q2 e2 h3 hl ⊢
  have q3 := same_upd h3 (.tup [])
  have e3 : upd H2 a3 (.tup []) a3 = some (.tup []) := upd_same
  generalize upd H2 a3 (.tup []) = H3 at q3 e3 hl ⊢
  generalize hL : ([V.non, V.bl true, V.bl false, V.str "", V.str "A", V.str "abcde", V.int (-1), V.int ((10 : Int) ^ (5 : Int).toNat), V.ref a1, V.ref a2, V.ref a3] : List V) = L
  have q4 := same_upd hl (.lst L)
  have e4 : upd H3 l (.lst L) l = some (.lst L) := upd_same
  generalize upd H3 l (.lst L) = H4 at q4 e4 ⊢
  have s04 := ((q1.trans q2).trans q3).trans q4
  have hm4 := s04 _ _ hm
  have Ll : L.length = 11 := by rw [← hL]; rfl
  refine ⟨_, rfl, l, m, L, ms, rfl, rfl, e4, hm4, Nat.le_trans (show _ ≤ 1000 by omega) (by decide), fun r hr0 => ?_⟩
  have q5 := same_upd hr0 (.lst (L ++ ms))
  have e5 : upd H4 r (.lst (L ++ ms)) r = some (.lst (L ++ ms)) := upd_same
  have B4 := B.same s04
  have nr := B4.fresh hr0
  generalize upd H4 r (.lst (L ++ ms)) = H5 at q5 e5 ⊢
  have B5 := B4.same q5
  have s05 := s04.trans q5
  refine ⟨b, c, .ref r, L ++ ms, rfl, B5, .inl ⟨r, rfl, nr, SqL.of e5⟩, by rw [List.length_append]; omega, by rw [List.length_append]; omega, fun y H6 hy B6 k6 => q y H6 ?_ B6 ((Same.kp s05).trans k6)⟩
  rcases List.mem_append.mp hy with hy | hy
  · refine .inl (OddB.kp (b := b) (H := H5) ?_ B5 k6)
    rw [← hL] at hy
    simp only [List.mem_cons, List.not_mem_nil, or_false] at hy
    rcases hy with rfl | rfl | rfl | rfl | rfl | rfl | rfl | rfl | rfl | rfl | rfl
    · exact .non
    · exact .bl
    · exact .bl
    · exact .e0
    · exact .e1
    · exact .e5
    · exact .int
    · exact .int
    · exact .t2 (q5 _ _ (q4 _ _ (q3 _ _ (q2 _ _ e1))))
    · exact .l1 n2 (q5 _ _ (q4 _ _ (q3 _ _ e2)))
    · exact .t0 (q5 _ _ (q4 _ _ e3))
  · exact .inr hy

abbrev sCopies : Stmt := top 69
theorem scCopies : FnScope ["_law_name_z", "_law_held", "_law_last", "_law_made"] ["_law_name_z"] (defScope sCopies) := ⟨rfl, rfl, rfl, by decide +kernel, rfl, by decide +kernel, by decide +kernel⟩
theorem FormR.up {H : Hp} {C CF a dx d1 d2 e : Addr} {o : V} {U : List Key} {k1 k2 ks : List (Key × V)} {val : Vf} {oo : HO} (R : FormR H C CF a dx d1 d2 o U k1 k2 val) (he : H e = some (.dK ks)) (n1 : e ≠ d1) (n2 : e ≠ d2) : FormR (upd H e oo) C CF a dx d1 d2 o U k1 k2 val :=
  ⟨by rw [upd_ne (ne_of R.ha he (by intro z; cases z))]; exact R.ha, R.t1.up he noSer_dK n1, R.t2.up he noSer_dK n2, R.n1, R.n2, R.nz1, R.nz2, R.z1, R.z2, R.fr, R.ord⟩
/-- a dict of one key -/
def oneV (k : Key) (v : SerM.Po × SerM.Po) : Vf := setV (fun _ => v0) k v
theorem oneV_at {k : Key} {v : SerM.Po × SerM.Po} : oneV k v k = v := setV_at
theorem oneV_ne {k j : Key} {v : SerM.Po × SerM.Po} (h : j ≠ k) : oneV k v j = v0 := setV_ne h
/-- a series of a list of numbers -/
structure Sm1 (p : SerM.Po) : Prop where
  l : p.length ≤ 9
  c : ∀ i, (SerM.co p i).natAbs ≤ 1048576
theorem Sm1.frac {p : SerM.Po} (h : Sm1 p) : Frac p [1] uni := ⟨h.l, by decide, h.c, fun i => by
    cases i with
    | zero => decide
    | succ i => rw [SerM.co_len (by show 1 ≤ i + 1; omega)]; decide, rfl⟩
theorem sm12 : Sm1 [1, 2] := ⟨by decide, fun i => by
    match i with
    | 0 => decide
    | 1 => decide
    | i + 2 => rw [SerM.co_len (by show 2 ≤ i + 2; omega)]; decide⟩
theorem sm01 : Sm1 [0, 1] := ⟨by decide, fun i => by
    match i with
    | 0 => decide
    | 1 => decide
    | i + 2 => rw [SerM.co_len (by show 2 ≤ i + 2; omega)]; decide⟩
theorem sm1 : Sm1 [1] := ⟨by decide, fun i => by
    match i with
    | 0 => decide
    | i + 1 => rw [SerM.co_len (by show 1 ≤ i + 1; omega)]; decide⟩
theorem one_made {C a dx : Addr} {H : Hp} {x y : V} {p : SerM.Po} {R : Hp → Prop} (ha : H a = none) (hdx : H dx = none) (ne : dx ≠ a) (Rx : RowV K H x p) (Ry : RowV K H y [1]) (S : Sm1 p) (h : ∀ H', Same H H' → ValU H' C a p [1] → R H') :
    spSerI K C [.ref a, x, y] (upd (upd H dx (.own a)) a (.ins C dx [])) (fun v H2 => v = .non ∧ R H2) E0 :=
  ser_madeV ha hdx ne Rx Ry S.frac fit1U.a S.l (by decide) S.c S.frac.qc rfl (fun x => rfl) h
/-- the reduced top of a polynomial -/
theorem ValU.top1 {H : Hp} {C a : Addr} {p : SerM.Po} (h : ValU H C a p [1]) (t : SerM.Tm p) : SerAt H C a p [1] := by
  obtain ⟨F, u, v, S, R⟩ := h
  obtain ⟨rfl, rfl⟩ := SerM.red_uniq F.q1 R (⟨t, fun _ => (by show (1 : Int) ≠ 0; decide), rfl, SerM.cop_one, fun x => rfl⟩ : SerM.Red p [1] p [1])
  exact S
/-- a dict of one series -/
theorem tval_one {S : Key → Prop} {H : Hp} {C d b : Addr} {U : List Key} {k : Key} {p : SerM.Po} {m : Vf} (h : H d = some (.dK [(k, .ref b)])) (V' : ValU H C b p [1]) (hm : m k = (p, [1])) (hu : k ∈ U) (ul : U.length ≤ 40) : TVal H C d U [(k, .ref b)] m :=
  ⟨h, fun q hq => by
    obtain rfl := List.mem_singleton.mp hq
    exact ⟨b, rfl, by rw [show m (k, V.ref b).1 = (p, [1]) from hm]; exact V'⟩, by simp, fun q hq => by
    obtain rfl := List.mem_singleton.mp hq
    exact hu, ul⟩
theorem keyin_one {k j : Key} {v : V} : KeysIn [(k, v)] j ↔ j = k := by
  unfold KeysIn
  rw [List.map_cons, List.map_nil, List.mem_singleton]
theorem one_frac {k : Key} {p : SerM.Po} (h : Sm1 p) (j : Key) : Frac (oneV k (p, [1]) j).1 (oneV k (p, [1]) j).2 uni := by
  by_cases e : j = k
  · rw [e, oneV_at]; exact h.frac
  · rw [oneV_ne e]; exact frac0
/-- the display of a dict of one new series -/
theorem disp_one {C : Addr} {fI : Addr} {dI : FuncData} {d : V} {dv : List Value} (MS : MakS P w K mg base C fI dI d dv) {tk ta : TE} {σ : L2.St} {H : Hp} {Q : VK} {k : Key} {p : SerM.Po} (hk : ∀ H1 R, R (kV k) H1 → tk σ H1 R) (hp : Sm1 p) (ha : ∀ H1 R, (∀ l, H1 l = none → R (.ref l) (upd H1 l (.lst (iv p)))) → ta σ H1 R)
    (q : ∀ f b H', Same H H' → H f = none → H' f = some (.dK [(k, .ref b)]) → ValU H' C b p [1] → Q (.ref f) H') : tDisp [(tk, tMake C (spSerI K C) [d] E0 (tCons ta tNil))] σ H Q := by
  intro f hf
  have s1 := same_upd hf (.dK [])
  have g1 : upd H f (.dK []) f = some (.dK []) := upd_same
  generalize upd H f (.dK []) = H1 at s1 g1 ⊢
  refine hk _ _ ?_
  refine ha _ _ fun l hl => ?_
  have s2 := same_upd hl (.lst (iv p))
  have h2 : upd H1 l (.lst (iv p)) l = some (.lst (iv p)) := upd_same
  generalize upd H1 l (.lst (iv p)) = H2 at s2 h2 ⊢
  intro b dx hb hdx ne
  refine one_made (C := C) hb hdx ne (RowV.lst h2) (MS.row _) hp fun H3 s3 V' => ?_
  have g3 := s3 _ _ (s2 _ _ g1)
  refine ⟨g3, [(k, .ref b)], rfl, (by show 1 ≤ 15; decide), ?_⟩
  have e : mergeK [] [(k, V.ref b)] = [(k, V.ref b)] := rfl
  rw [e]
  exact q f b _ (fun a o e => by rw [upd_ne (ne_of_none e hf)]; exact s3 _ _ (s2 _ _ (s1 _ _ e))) hf upd_same (V'.up g3 noSer_dK)
def spCopies (C CF : Addr) : Sp := fun vs H Q _ => ∃ (z : Str), vs = [.str z] ∧ IsNm z ∧ ∀ H', Same H H' → Q (.bl true) H'
theorem ok_copies {f C CF fI fF g1 g2 g3 g4 g5 g6 : Addr} {fd dI dF e1 e2 e3 e4 e5 e6 : FuncData} {d : V} {dv : List Value} (F : Fun K "_law_form_copies" "_law_form_copies" sCopies f fd) (C' : FrmC K CF) (cS : SerC K C) (MS : MakS P w K mg base C fI dI d dv) (MF : MakF P w K mg base C CF fF dF) (GSa : Df P w K mg base 4 g1 e1 "_law_same" ["_law_found", "_law_due"] (spSame 4)) (MT : Mt P w K mg base C 1 g2 e2 "top" ["self"] (spTopM C))
    (MSs : Mt P w K mg base CF 1 g3 e3 "sources" ["self"] (spSourcesF C CF)) (MBs : Mt P w K mg base CF 1 g4 e4 "boxes" ["self"] (spBoxesF C CF)) (MSo : Mt P w K mg base CF 7 g5 e5 "source" ["self", "name"] (spSource C CF)) (MBo : Mt P w K mg base CF 7 g6 e6 "box" ["self", "index"] (spBox C CF)) : FnOk P w K mg base CX0 8 f fd ["_law_name_z"] (spCopies C CF) := by
  refine F.ok scCopies (fun vs H Q E h => ?_) (fun cdv A outer s H vs Q E hr h => ?_)
  · obtain ⟨z, rfl, _⟩ := h
    rfl
  obtain ⟨z, rfl, nm, q⟩ := h
  have z4 := nm.l4
  refine ⟨_, (pss_cons (ps_par (i := 1) (j := 2) rfl scCopies.nd rfl rfl (by decide) rfl rfl (pa_cons (pe_disp (pps_cons (pv 0) (pe_make MS.mkS MS.ok (hr.mono (by decide)) (by rfl) MS.m MS.b1 MS.dS pass0 (pa_cons (pe_lst (pa_cons pe_int (pa_cons pe_int pa_nil))) pa_nil)) pps_nil) (by rfl) (by rfl) (by simp) (by decide)) (pa_cons (pe_disp (pps_cons pe_int (pe_make MS.mkS MS.ok (hr.mono (by decide)) (by rfl) MS.m MS.b1 MS.dS pass0 (pa_cons (pe_lst (pa_cons pe_int (pa_cons pe_int pa_nil))) pa_nil)) pps_nil) (by rfl) (by rfl) (by simp) (by decide)) pa_nil)) (by rfl))
 (pss_cons (ps_set (i := 3) scCopies.nd rfl (by first | exact Or.inl rfl | exact Or.inr rfl) (pe_make MF.mkF MF.ok (hr.mono (by decide)) (by rfl) MF.m MF.b2 .nil pass0 (pa_cons (pv 1) (pa_cons (pv 2) pa_nil))))
 (pss_cons (ps_expr (pe_bm0 PySem.F.plainAttrs_dict PySem.F.slot_dict_clear PySem.F.type_dict_clear OwnX.mt_dclear (pv 1)))
 (pss_cons (ps_dput (hu_of hr) (pv 2) pe_int (pe_make MS.mkS MS.ok (hr.mono (by decide)) (by rfl) MS.m MS.b1 MS.dS pass0 (pa_cons (pe_lst (pa_cons pe_int pa_nil)) pa_nil)) rfl)
 (pss_one (ps_ret (pe_call GSa.ok (hr.mono (by decide)) (by rfl) GSa.m GSa.kp GSa.b .nil pass0 (pa_cons (pe_lst (pa_cons (pe_meth0 (pv 3) C'.cl MSs.mt MSs.ok (hr.mono (by decide)) MSs.b .nil pass0) (pa_cons (pe_meth0 (pv 3) C'.cl MBs.mt MBs.ok (hr.mono (by decide)) MBs.b .nil pass0) (pa_cons (pe_meth0 (pe_meth (pv 3) C'.cl MBo.mt MBo.ok (hr.mono (by decide)) MBo.b .nil pass0 (pa_cons pe_int pa_nil)) cS.cl MT.mt MT.ok (hr.mono (by decide)) MT.b .nil pass0) (pa_cons (pe_meth0 (pe_meth (pv 3) C'.cl MSo.mt MSo.ok (hr.mono (by decide)) MSo.b .nil pass0 (pa_cons (pv 0) pa_nil)) cS.cl MT.mt MT.ok (hr.mono (by decide)) MT.b .nil pass0) pa_nil))))) (pa_cons (pe_lst (pa_cons (pe_lst (pa_cons (pv 0) pa_nil)) (pa_cons (pe_lst (pa_cons pe_int pa_nil)) (pa_cons (pe_lst (pa_cons pe_int (pa_cons pe_int pa_nil))) (pa_cons (pe_lst (pa_cons pe_int (pa_cons pe_int pa_nil))) pa_nil))))) pa_nil))))))))), ?_⟩
  dsimp only [tSeq, tPar, tCons]
  refine disp_one (k := Sum.inr z) (p := [1, 2]) MS (fun H1 R r => ⟨_, rfl, r⟩) sm12 (fun H1 R r => ⟨(by show 2 ≤ sizeLine; decide), r⟩) fun f1 b1 H1 s1 hf1 g1 V1 => ?_
  refine disp_one (k := Sum.inl 0) (p := [0, 1]) MS (fun H1 R r => r) sm01 (fun H1 R r => ⟨(by show 2 ≤ sizeLine; decide), r⟩) fun f2 b2 H2 s2 hf2 g2 V2 => ?_
  have g1 := s2 _ _ g1
  have V1 := V1.same s2
  refine ⟨_, _, rfl, ?_⟩
  -- the form
  refine ⟨_, rfl, _, rfl, fun a dx ha hdx ne => ?_⟩
  have m1 : joinV (oneV (Sum.inr z) ([1, 2], [1])) (oneV (Sum.inl 0) ([0, 1], [1])) (Sum.inr z) = ([1, 2], [1]) := oneV_at
  have m2 : joinV (oneV (Sum.inr z) ([1, 2], [1])) (oneV (Sum.inl 0) ([0, 1], [1])) (Sum.inl 0) = ([0, 1], [1]) := oneV_at
  have zs : ∀ k, SrcK k → k ≠ Sum.inr z → joinV (oneV (Sum.inr z) ([1, 2], [1])) (oneV (Sum.inl 0) ([0, 1], [1])) k = v0 := fun k hk n => by rw [join_s hk]; exact oneV_ne n
  have zb : ∀ k, BoxK k → k ≠ Sum.inl 0 → joinV (oneV (Sum.inr z) ([1, 2], [1])) (oneV (Sum.inl 0) ([0, 1], [1])) k = v0 := fun k hk n => by rw [join_b hk]; exact oneV_ne n
  have fr : ∀ k, Frac (joinV (oneV (Sum.inr z) ([1, 2], [1])) (oneV (Sum.inl 0) ([0, 1], [1])) k).1 (joinV (oneV (Sum.inr z) ([1, 2], [1])) (oneV (Sum.inl 0) ([0, 1], [1])) k).2 uni := fun k => join_all (P := fun v => Frac v.1 v.2 uni) (one_frac sm12) (one_frac sm01) k
  generalize joinV (oneV (Sum.inr z) ([1, 2], [1])) (oneV (Sum.inl 0) ([0, 1], [1])) = val at m1 m2 zs zb fr ⊢
  have T1 : TVal H2 C f1 [Sum.inr z, Sum.inl 0] [(Sum.inr z, .ref b1)] val := tval_one (S := SrcOk) g1 V1 m1 (by simp) (by show 2 ≤ 40; decide)
  have T2 : TVal H2 C f2 [Sum.inr z, Sum.inl 0] [(Sum.inl 0, .ref b2)] val := tval_one (S := BoxOk) g2 V2 m2 (by simp) (by show 2 ≤ 40; decide)
  have FI : FormIn H2 C (.ref f1) (.ref f2) [Sum.inr z, Sum.inl 0] [(Sum.inr z, .ref b1)] [(Sum.inl 0, .ref b2)] val := ⟨.inr ⟨f1, rfl, T1, fun p hp => by obtain rfl := List.mem_singleton.mp hp; exact ⟨z, rfl, nm⟩⟩, .inr ⟨f2, rfl, T2, fun p hp => by obtain rfl := List.mem_singleton.mp hp; exact ⟨0, rfl, by decide⟩⟩,
    fun k hk n => by rw [zs k hk fun e => n (keyin_one.mpr e)]; exact fun _ => rfl, fun k hk n => by rw [zb k hk fun e => n (keyin_one.mpr e)]; exact fun _ => rfl, fr, (by show 2 ≤ 40; decide)⟩
  refine form_made ha hdx ne FI fun H3 s3 FN => ?_
  obtain ⟨cx, d1, d2, o, k1, k2, R, n1, n2⟩ := FN
  have g1 := s3 _ _ g1
  have g2 := s3 _ _ g2
  have s03 := (s1.trans s2).trans s3
  have nf1 : f1 ≠ d1 ∧ f1 ≠ d2 := ⟨fun e => (by rw [← e, T1.at_] at n1; cases n1), fun e => (by rw [← e, T1.at_] at n2; cases n2)⟩
  have nf2 : f2 ≠ d1 ∧ f2 ≠ d2 := ⟨fun e => (by rw [← e, T2.at_] at n1; cases n1), fun e => (by rw [← e, T2.at_] at n2; cases n2)⟩
  have n12 : f1 ≠ f2 := fun e => by rw [e, g2] at g1; cases g1
  refine ⟨_, rfl, ?_⟩
  -- clear
  have hf10 : H f1 = none := hf1
  have hf20 : H f2 = none := s1.free hf2
  refine ⟨.inr (.inr (.inl ⟨rfl, .inl ⟨_, g1⟩⟩)), f1, _, rfl, rfl, g1, ?_⟩
  have R := R.up (oo := .dK []) g1 nf1.1 nf1.2
  have s04 : Same H (upd H3 f1 (.dK [])) := fun a o e => by rw [upd_ne (ne_of_none e hf10)]; exact s03 _ _ e
  have g2 : upd H3 f1 (.dK []) f2 = some (.dK [(Sum.inl 0, .ref b2)]) := by rw [upd_ne n12.symm]; exact g2
  generalize upd H3 f1 (.dK []) = H4 at R s04 g2 ⊢
  -- last[5]
  refine ⟨(by show 1 ≤ sizeLine; decide), fun l hl => ?_⟩
  have s5 := same_upd hl (.lst [V.int 1])
  have g5 : upd H4 l (.lst [V.int 1]) l = some (.lst (iv [1])) := upd_same
  generalize upd H4 l (.lst [V.int 1]) = H5 at s5 g5 ⊢
  intro b dy hb hdy ne'
  refine one_made (C := C) hb hdy ne' (RowV.lst g5) (MS.row _) sm1 fun H6 s6 V6 => ?_
  have R := R.same (s5.trans s6)
  have g2 := s6 _ _ (s5 _ _ g2)
  have s06 := (s04.trans s5).trans s6
  refine ⟨_, rfl, f2, _, rfl, DPut.k (k := Sum.inl 5) g2 (by show 1 < sizeLine; decide), ?_⟩
  have R := R.up (oo := .dK (putK [(Sum.inl 0, .ref b2)] (Sum.inl 5) (.ref b))) g2 nf2.1 nf2.2
  have s07 : Same H (upd H6 f2 (.dK (putK [(Sum.inl 0, .ref b2)] (Sum.inl 5) (.ref b)))) := fun a o e => by rw [upd_ne (ne_of_none e hf20)]; exact s06 _ _ e
  generalize upd H6 f2 (.dK (putK [(Sum.inl 0, .ref b2)] (Sum.inl 5) (.ref b))) = H7 at R s07 ⊢
  have FV : FormV H7 C CF a [Sum.inr z, Sum.inl 0] val := ⟨cx, d1, d2, o, k1, k2, R⟩
  have zz1 : ¬ Zp (val (Sum.inr z)) := fun h => by
    rw [m1] at h
    exact absurd (h 0) (by decide)
  have zz2 : ¬ Zp (val (Sum.inl 0)) := fun h => by
    rw [m2] at h
    exact absurd (h 1) (by decide)
  have MSs' := MSs
  -- what it tells
  refine ⟨_, rfl, a, cx, _, rfl, R.ha, rfl, a, _, val, rfl, FV, fun l1 ys H8 s8 hl1 e1 SL => ?_⟩
  have R := R.same s8
  refine ⟨_, rfl, a, cx, _, rfl, R.ha, rfl, a, _, val, rfl, FV.same s8, fun l2 is H9 s9 hl2 e2 BL => ?_⟩
  have R := R.same s9
  refine ⟨_, rfl, a, cx, _, rfl, R.ha, rfl, a, 0, _, val, rfl, (FV.same s8).same s9, fun x1 H10 s10 W1 => ?_⟩
  rw [m2] at W1
  have W1 := W1.top1 (fun _ => (by show (1 : Int) ≠ 0; decide))
  have R := R.same s10
  obtain ⟨dx1, xx, xy, xz, k1', k2', k3', k4'⟩ := id W1
  refine ⟨x1, dx1, _, rfl, k1', rfl, x1, _, _, rfl, W1, fun l3 hl3 => ?_⟩
  have s11 := same_upd hl3 (.lst (iv [0, 1]))
  have e3 : upd H10 l3 (.lst (iv [0, 1])) l3 = some (.lst (iv [0, 1])) := upd_same
  generalize upd H10 l3 (.lst (iv [0, 1])) = H11 at s11 e3 ⊢
  have R := R.same s11
  refine ⟨_, rfl, a, cx, _, rfl, R.ha, rfl, _, rfl, a, z, _, val, rfl, by omega, ⟨cx, d1, d2, o, _, _, R⟩, fun x2 H12 s12 W2 => ?_⟩
  rw [m1] at W2
  have W2 := W2.top1 (fun _ => (by show (2 : Int) ≠ 0; decide))
  obtain ⟨dx2, yx, yy, yz, k1', k2', k3', k4'⟩ := id W2
  refine ⟨x2, dx2, _, rfl, k1', rfl, x2, _, _, rfl, W2, fun l4 hl4 => ?_⟩
  have s13 := same_upd hl4 (.lst (iv [1, 2]))
  have e4 : upd H12 l4 (.lst (iv [1, 2])) l4 = some (.lst (iv [1, 2])) := upd_same
  generalize upd H12 l4 (.lst (iv [1, 2])) = H13 at s13 e4 ⊢
  refine ⟨(by show 4 ≤ sizeLine; decide), fun l5 hl5 => ?_⟩
  have e1 := s13 _ _ (s12 _ _ (s11 _ _ (s10 _ _ (s9 _ _ e1))))
  have e2 := s13 _ _ (s12 _ _ (s11 _ _ (s10 _ _ e2)))
  have e3 := s13 _ _ (s12 _ _ e3)
  have s08 : Same H H13 := (((((s07.trans s8).trans s9).trans s10).trans s11).trans s12).trans s13
  have s14 := same_upd hl5 (.lst [.ref l1, .ref l2, .ref l3, .ref l4])
  have e5 : upd H13 l5 (.lst [.ref l1, .ref l2, .ref l3, .ref l4]) l5 = some (.lst [.ref l1, .ref l2, .ref l3, .ref l4]) := upd_same
  generalize upd H13 l5 (.lst [.ref l1, .ref l2, .ref l3, .ref l4]) = H14 at s14 e5 ⊢
  refine ⟨_, rfl, (by show 1 ≤ sizeLine; decide), fun p1 hp1 => ?_⟩
  have t1 := same_upd hp1 (.lst [.str z])
  have a1 : upd H14 p1 (.lst [.str z]) p1 = some (.lst [.str z]) := upd_same
  generalize upd H14 p1 (.lst [.str z]) = H15 at t1 a1 ⊢
  refine ⟨(by show 1 ≤ sizeLine; decide), fun p2 hp2 => ?_⟩
  have t2 := same_upd hp2 (.lst [.int 0])
  have a2 : upd H15 p2 (.lst [.int 0]) p2 = some (.lst [.int 0]) := upd_same
  generalize upd H15 p2 (.lst [.int 0]) = H16 at t2 a2 ⊢
  refine ⟨(by show 2 ≤ sizeLine; decide), fun p3 hp3 => ?_⟩
  have t3 := same_upd hp3 (.lst [.int 0, .int 1])
  have a3 : upd H16 p3 (.lst [.int 0, .int 1]) p3 = some (.lst [.int 0, .int 1]) := upd_same
  generalize upd H16 p3 (.lst [.int 0, .int 1]) = H17 at t3 a3 ⊢
  refine ⟨(by show 2 ≤ sizeLine; decide), fun p4 hp4 => ?_⟩
  have t4 := same_upd hp4 (.lst [.int 1, .int 2])
  have a4 : upd H17 p4 (.lst [.int 1, .int 2]) p4 = some (.lst [.int 1, .int 2]) := upd_same
  generalize upd H17 p4 (.lst [.int 1, .int 2]) = H18 at t4 a4 ⊢
  refine ⟨(by show 4 ≤ sizeLine; decide), fun p5 hp5 => ?_⟩
  have t5 := same_upd hp5 (.lst [.ref p1, .ref p2, .ref p3, .ref p4])
  have a5 : upd H18 p5 (.lst [.ref p1, .ref p2, .ref p3, .ref p4]) p5 = some (.lst [.ref p1, .ref p2, .ref p3, .ref p4]) := upd_same
  generalize upd H18 p5 (.lst [.ref p1, .ref p2, .ref p3, .ref p4]) = H19 at t5 a5 ⊢
  have a4 := t5 _ _ a4
  have a3 := (t4.trans t5) _ _ a3
  have a2 := (t3.trans (t4.trans t5)) _ _ a2
  have t25 := t2.trans (t3.trans (t4.trans t5))
  have a1 := t25 _ _ a1
  have t15 := t1.trans t25
  have e5 := t15 _ _ e5
  have u := s14.trans t15
  have ye : ys = [z] := List.perm_singleton.mp (perm_mem SL.nd (by simp) fun y => by
    rw [SL.iff, List.mem_singleton]
    constructor
    · intro h
      exact Classical.byContradiction fun n => h (by rw [zs _ ⟨y, rfl⟩ (fun e => n (by injection e))]; exact fun _ => rfl)
    · rintro rfl
      exact zz1)
  have ie : is = [0] := List.perm_singleton.mp (perm_mem BL.nd (by simp) fun y => by
    rw [BL.iff, List.mem_singleton]
    constructor
    · intro h
      exact Classical.byContradiction fun n => h (by rw [zb _ ⟨y, rfl⟩ (fun e => n (by injection e))]; exact fun _ => rfl)
    · rintro rfl
      exact zz2)
  rw [ye] at e1
  rw [ie] at e2
  refine ⟨_, _, rfl, eqv_lst e5 a5 ⟨eqv_lst (u _ _ e1) a1 ⟨.leaf (by trivial) _, trivial⟩ (by show 1 ≤ 100000; decide), eqv_lst (u _ _ e2) a2 ⟨.leaf (by trivial) _, trivial⟩ (by decide), eqv_lst (u _ _ e3) a3 ⟨.leaf (by trivial) _, .leaf (by trivial) _, trivial⟩ (by decide), eqv_lst (u _ _ e4) a4 ⟨.leaf (by trivial) _, .leaf (by trivial) _, trivial⟩ (by decide), trivial⟩ (by show 4 ≤ 100000; decide), fun H20 s20 => q H20 ((s08.trans u).trans s20)⟩
end
end Un
/-! ### a dict of the one key True -/
namespace BD
open PySem L2 TL
def isB : Bool → Value → Bool
  | b, .bool c => decide (b = c)
  | _, _ => false
theorem isB_eq {b : Bool} {v : Value} (h : isB b v = true) : v = .bool b := by
  cases v with
  | bool c => rw [of_decide_eq_true (show decide (b = c) = true from h)]
  | _ => exact absurd h Bool.false_ne_true
def lf (b : Bool) : Leaf := .num (if b = true then 1 else 0)
theorem lf_is {b : Bool} {v : Value} (h : isB b v = true) : Leaf.isOf (lf b) v = true := by
  rw [isB_eq h]
  exact decide_eq_true rfl
def boolKind (prog : Program) (w : World) : KeyKind prog w Bool where
  is := isB
  hash := fun b => (lf b).key.hash w
  inj := fun v a b ha hb => by
    have e := (isB_eq ha).symm.trans (isB_eq hb)
    injection e
  byValue := fun _ _ h => by rw [isB_eq h]; rfl
  pyHash := fun hv h => pyHash_leaf (lf_is hv) h
  eqBool := fun {A E s a b u v Q} hu hv h => eqAt_leaf (lf_is hu) (lf_is hv) _ _ _ _ (by
    have e : decide (lf a = lf b) = decide (a = b) := by cases a <;> cases b <;> rfl
    rw [e]; exact h)
  «strs» := fun k x t v h => absurd (isB_eq h) (fun e => nomatch e)
def BdO (d : Addr) (o : Obj) : HO := .ext fun h => h.get? d = some o
structure BdOk (d : Addr) (o : Obj) : Prop where
  ns : (d == sysModules) = false
  x : o.ExactDict
  ent : ∃ (es : Array DictEntry) (ep : Nat) (en : DictEntry), o.data = .dict es ep ∧ es.size = 1 ∧ es[0]? = some en ∧ en.key = .bool true
def BdAt (H : Hp) (d : Addr) : Prop := ∃ o, H d = some (BdO d o) ∧ BdOk d o
theorem BdAt.same {H H' : Hp} {d : Addr} (h : BdAt H d) (s : Same H H') : BdAt H' d := by
  obtain ⟨o, h1, h2⟩ := h
  exact ⟨o, s _ _ h1, h2⟩
def tDispB (tk tv : TE) : TE := fun σ H Q => ∀ p, H p = none → tPairs [(tk, tv)] σ (upd H p (.dK [])) fun ps H2 => H2 p = some (.dK []) ∧ ∃ y, ps = [(.bl true, y)] ∧ ∀ o, BdOk p o → Q (.ref p) (upd H2 p (BdO p o))
section
variable {X : Cx} {pins : List (Addr × Obj)} {σ : St} {H : Hp} {s : Shared}
theorem bd_get {d : Addr} {o : Obj} (I : Inv X pins σ H s) (h : H d = some (BdO d o)) : s.heap.get? d = some o := (show ObjOk X.prog X.w H s.heap d (BdO d o) from I.hok d _ h).1
theorem pe_dispB {k v : Expr} {pos : Pos} {tk tv : TE} (hk : PE X k tk) (hv : PE X v tv) : PE X (.Dict [some k] [v] pos) (tDispB tk tv) := by
  refine ⟨fun pins s σ H Q I q => ?_⟩
  have hn := I.hok.fresh (Nat.le_refl s.heap.objs.size)
  have I1 := I.laid (a := s.heap.objs.size) (o := .dK []) (h' := s.heap.push { cls := .type "dict", data := .dict #[] }) (t' := s.toks) (fun _ _ q => Heap.get?_push_of_some _ q) (Nat.le_refl _) (dk_empty s.heap I.big)
  refine wpAny_Dict_walk (knd := boolKind X.prog X.w) rfl rfl (by simp) (by show 1 ≤ 15; decide) (thn ((pps_cons hk hv pps_nil).run pins _ σ _ _ I1 (q _ hn)) fun ws s2 ⟨ps, H2, I2, rel, e, y, ep, q2⟩ => ?_)
  subst ep
  cases rel with
  | @cons a b as bs h t =>
  cases t
  obtain ⟨b1, b2⟩ := b
  obtain ⟨r1, r2⟩ := h
  have r1 : RelV (.bl true) b1 := r1
  cases r1
  obtain ⟨z, hd, vs0, r0, o0, es0, ep0, g1, g2, g3, g4, g5, g6⟩ := dk_of I2.hok e
  cases r0
  have e0 : es0.toList = [] := by
    generalize es0.toList = l at g5
    cases g5
    rfl
  have k0 : ∀ en ∈ es0, False := fun en hen => by
    have : en ∈ es0.toList := Array.mem_toList_iff.mpr hen
    rw [e0] at this
    cases this
  refine ⟨[(true, b2)], ⟨rfl, rfl, trivial⟩, ⟨o0, es0, ep0, g1, g2, g3, fun en hen => (k0 en hen).elim, by rw [e0]; exact .nil, List.nodup_nil⟩, fun h' dd' hs => ?_⟩
  obtain ⟨o, es, ep, f1, f2, f3, f4, f5, f6⟩ := dd'
  have f5 : Pairs (boolKind X.prog X.w) es.toList [(true, b2)] := f5
  have ok : BdOk s.heap.objs.size o := by
    refine ⟨hd, f2, ?_⟩
    obtain ⟨en, e1, e2⟩ : ∃ en, es.toList = [en] ∧ isB true en.key = true := by
      generalize es.toList = l at f5
      cases f5 with
      | cons i1 i2 i3 =>
        cases i3
        exact ⟨_, rfl, i1⟩
    have l1 : es.size = 1 := by rw [← Array.length_toList, e1]; rfl
    exact ⟨es, ep, en, f3, l1, by rw [← Array.getElem?_toList, e1]; rfl, isB_eq e2⟩
  exact ⟨.ref s.heap.objs.size, _, d_write (ob := BdO s.heap.objs.size o) I2 (by rw [e]; exact True.intro) hs ⟨o, f1⟩ ⟨f1, ⟨o, f1⟩, fun h1 h2 p st => st _ p⟩, rfl, q2 o ok⟩
theorem call_isiB : CallR X (.builtin "isinstance") (fun xs H Q => ∃ d, xs = [.ref d, .ty "dict"] ∧ BdAt H d ∧ Q (.bl true) H) := by
  intro pins s σ H xs us Q I r h
  obtain ⟨d, rfl, ⟨o, hd, ok⟩, q⟩ := h
  obtain ⟨u1, u2, rfl, r1, r2⟩ := vals2 r
  cases (show u1 = Value.ref d from r1)
  have e2 := (ClsV.ty "dict").eq r2
  subst e2
  exact PySem.W.kia_one PySem.W.kitx_dict I.kIn ⟨o, bd_get I hd, ok.x.1⟩ (b := true) (kit_ty (by decide +kernel)) (fun z => nomatch z) fun tk => ⟨.bl true, H, I.tok tk, rfl, q⟩
def ItB (d : Addr) (o : Obj) : It := ⟨fun i H => H d = some (BdO d o) ∧ i < 1, fun i H x H' => H' = H ∧ x = .bl true, fun i H => H d = some (BdO d o) ∧ 1 ≤ i⟩
theorem turn_bd {P : Program} {w : World} {K : PySem.W.Frag} {tg : Expr} {d : Addr} {o : Obj} {es : Array DictEntry} {ep : Nat} {en : DictEntry} (it : Addr) (hdt : o.data = .dict es ep) (hsz : es.size = 1) (hen : es[0]? = some en) (hkey : en.key = .bool true) : Turn P w K tg (ItB d o) [it] it (fun i h => h.IsKeyIter it d i 1 ep) where
  mem := by simp
  obj := fun i h st b hb => by
    have e : b = it := by simpa using hb
    subst e
    obtain ⟨oi, e, c, dd⟩ := st
    exact ⟨oi, e, fun v z => by rw [dd] at z; cases z⟩
  keep := fun i h h' st k => st.at fun oi e => k it (by simp) oi e
  item := by
    intro X hP hw hK hc i pins s σ H E I hf st hg
    subst hP hw hK
    obtain ⟨hd, hi⟩ := hg
    obtain ⟨f0, f1, f2, f3, f4, f5⟩ := hf it (by simp)
    have hgd := bd_get I hd
    obtain rfl : i = 0 := by omega
    refine next_key_item st hgd hdt hsz hen fun h' st' sb => ?_
    have I1 : Inv X pins σ H { s with heap := h' } := I.turned (t' := s.toks) (fun b ob hb e => (sb.2 b hb).trans e) f0 f1 f3 f4 f5
    obtain ⟨oi, e, c, dd⟩ := id st'
    exact ⟨en.key, rfl, go_of (s := { s with heap := h' }) e c dd (by decide) ⟨.bl true, H, I1, hkey, ⟨rfl, rfl⟩, st', fun b hb => (hf b hb).1⟩⟩
  done := by
    intro X hP hw hK hc i pins s σ H E I hf st hg
    subst hP hw hK
    obtain ⟨hd, hi⟩ := hg
    obtain ⟨f0, f1, f2, f3, f4, f5⟩ := hf it (by simp)
    have hgd := bd_get I hd
    exact next_key_end (I.ok.hd hc) st hgd hdt hsz hi fun h' eb => ⟨rfl, I.turned (t' := s.toks) (fun b ob hb e => eb b ob hb e) f0 f1 f3 f4 f5⟩
  self := fun A i s Q E st h => wpAny_pyIter_keyiter st h
def iBd (td : TE) : TI := fun σ H R => td σ H fun x H1 => ∃ d o, x = .ref d ∧ H1 d = some (BdO d o) ∧ BdOk d o ∧ R (ItB d o) H1
theorem pi_bd {tg e : Expr} {td : TE} (he : PE X e td) : PI X tg e (iBd td) := by
  refine ⟨fun pins s σ H R I h => ?_⟩
  refine thn (he.run pins s σ H _ I h) fun u s1 ⟨x, H1, I1, rx, d, o, ex, hd, ok, q⟩ => ?_
  subst ex
  obtain rfl : u = Value.ref d := rx
  obtain ⟨es, ep, en, h1, h2, h3, h4⟩ := ok.ent
  refine iter_keys ok.ns (bd_get I1 hd) ok.x h1 (pi_one (tk := s1.toks) I1 _ (turn_bd _ h1 h2 h3 h4) ⟨_, Heap.get?_push_size _ rfl, rfl, ?_⟩ q)
  rw [h2] <;> rfl
theorem walk_bd {d : Addr} {o : Obj} : Walk (ItB d o) 1 (fun H => H d = some (BdO d o)) (fun i H x H' => H' = H ∧ x = .bl true) :=
  ⟨fun _ _ hi q => ⟨q, hi⟩, fun _ q => ⟨q, Nat.le_refl _⟩, fun _ _ _ _ _ _ y => y⟩
end
end BD
namespace Un
open PySem L2 TL
section
variable {P : Program} {w : World} {K : PySem.W.Frag} {mg : Str → Option Value} {base : Heap}
end
end Un
namespace Un
open PySem L2 TL
section
variable {P : Program} {w : World} {K : PySem.W.Frag} {mg : Str → Option Value} {base : Heap}
/-! ### boxes of the key True -/
theorem FnOk.or {P : Program} {w : World} {K : PySem.W.Frag} {mg : Str → Option Value} {base : Heap} {CX : CXT} {k : Nat} {f : Addr} {fd : FuncData} {ps : List Str} {sp1 sp2 : Sp} (F1 : FnOk P w K mg base CX k f fd ps sp1) (F2 : FnOk P w K mg base CX k f fd ps sp2) : FnOk P w K mg base CX k f fd ps (fun vs H Q E => sp1 vs H Q E ∨ sp2 vs H Q E) :=
  ⟨fun vs H Q E h => h.elim (F1.len _ _ _ _) (F2.len _ _ _ _), fun A outer s H args us vs Q E hr he hb hv hs => hs.elim (F1.run A outer s H args us vs Q E hr he hb hv) (F2.run A outer s H args us vs Q E hr he hb hv)⟩
def spAreBoxT : Sp := fun vs H Q _ => ∃ d : Addr, vs = [.ref d] ∧ BD.BdAt H d ∧ ∀ H', Same H H' → Q (.bl false) H'
def spAreBoxA (K : PySem.W.Frag) (C CF : Addr) : Sp := fun vs H Q E => spAreBoxG K C CF vs H Q E ∨ spAreBoxT vs H Q E
theorem ok_areBoxesT {f g C : Addr} {fd gd : FuncData} (F : Fun K "are_boxes" "are_boxes" sAreBoxes f fd) (IN : IsS K C) (mC : mg "Series" = some (.ref C)) (misi : mg "isinstance" = none) (mall : mg "all" = none) (mdict : mg "dict" = none) (N : Df P w K mg base 1 g gd "is_integer" ["value"] (spInteger K)) : FnOk P w K mg base CX0 2 f fd ["value"] spAreBoxT := by
  refine F.ok scAreBoxes (fun vs H Q E h => ?_) (fun cdv A outer s H vs Q E hr h => ?_)
  · obtain ⟨d, rfl, _⟩ := h
    rfl
  obtain ⟨d, rfl, ⟨o, hd, ok⟩, q⟩ := h
  refine ⟨_, pss_cons (ps_if (pt_not (pt_val (pe_callB BD.call_isiB (by rfl) misi (by decide +kernel) (pa_cons (pv 0) (pa_cons (pe_bltn (v := .ty "dict") (by rfl) mdict (by decide +kernel) rfl) pa_nil))))) (pss_one (ps_ret pe_bl)) pss_nil)
    (pss_one (ps_ret (pe_callB (cr_all rfl) (by rfl) mall (by decide +kernel) (pa_cons
      (pe_lc (own := [("key", 1)]) (g := gName 1) rfl scAreBoxes.nd (BD.pi_bd (pv 0)) (blkOk_by (own := [("key", 1)]) (N := ["value", "key"]) (sc := defScope sAreBoxes) (by decide +kernel))
        (fun _ _ _ _ _ => pg_name (i := 1) scAreBoxes.nd rfl (Or.inl rfl) (Or.inr rfl)) (fun _ _ _ _ _ => pts_nil)
        (fun _ _ _ _ _ => pe_and (pe_call N.ok (hr.mono (by decide)) (by rfl) N.m N.kp N.b .nil pass0 (pa_cons (pv 1) pa_nil)) (pe_and (pe_cmpR op_ge (pv 1) pe_int (nomark _)) (pe_one (pe_callB (call_isS IN) (by rfl) misi (by decide +kernel) (pa_cons (pe_dget (hu_of hr) (pv 0) (pv 1) (fun _ _ => rfl)) (pa_cons (C8.pe_gc (v := .ref C) (by rfl) ⟨_, mC, rfl⟩) pa_nil))))))) pa_nil)))), ?_⟩
  refine ⟨_, rfl, d, rfl, ⟨o, hd, ok⟩, _, rfl, iteF ?_⟩
  refine ⟨.ref d, rfl, d, o, rfl, hd, ok, fun m hm => ?_⟩
  refine lc_it BD.walk_bd (fun i H2 => Same H H2 ∧ H2 m = some (.lst ((List.replicate i false).map V.bl))) ⟨same_upd hm _, upd_same⟩ (fun i H2 _ h => h.1 _ _ hd) ?_ ?_
  · rintro i x H2 H3 hi ⟨s2, h2⟩ ⟨rfl, rfl⟩
    refine ⟨rfl, _, rfl, _, "bool", true, true, rfl, .base (.bl _), by decide +kernel, by decide +kernel, _, rfl, iteF ?_⟩
    obtain rfl : i = 0 := by omega
    exact ⟨_, h2, small1000 (by decide), fun b o e => by rw [upd_ne (ne_of_none e hm)]; exact s2 _ _ e, by rw [upd_same]; rfl⟩
  rintro H2 ⟨s2, h2⟩
  exact ⟨m, [false], rfl, SqL.of h2, q H2 s2⟩
/-- what the constructor's two questions answer -/
theorem src0 {C CF : Addr} : ∀ (d : Addr) (H : Hp) (Q : VK), H d = some (.dK []) → (∀ H', Same H H' → Q (.bl true) H') → spAreSrcG K C CF [.ref d] H Q E0 := fun d H Q h q =>
  ⟨_, rfl, .inr ⟨d, [], fun _ => true, rfl, ⟨h, fun p hp => (by cases hp), List.nodup_nil, by decide, fun p hp => (by cases hp)⟩, q⟩⟩
theorem asks_src {C CF d : Addr} {H : Hp} {kvs : List (Key × V)} {sb : Key × V → Bool} (T : DAny H C CF d kvs sb) : Asks (spAreSrcG K C CF) H (.ref d) (kvs.all (srcB sb)) := fun H1 s1 Q q => ⟨_, rfl, .inr ⟨d, kvs, sb, rfl, T.same s1, q⟩⟩
theorem asks_box {C CF d : Addr} {H : Hp} {kvs : List (Key × V)} {sb : Key × V → Bool} (T : DAny H C CF d kvs sb) : Asks (spAreBoxA K C CF) H (.ref d) (kvs.all (boxB sb)) := fun H1 s1 Q q => .inl ⟨_, rfl, .inr ⟨d, kvs, sb, rfl, T.same s1, q⟩⟩
theorem asks_bd {C CF d : Addr} {H : Hp} (h : BD.BdAt H d) : Asks (spAreBoxA K C CF) H (.ref d) false := fun H1 s1 Q q => .inr ⟨d, rfl, h.same s1, q⟩
/-- no dict at all: an int, a text, a bool, a list -/
inductive NoD (H : Hp) : V → Prop where
  | int {i : Int} : NoD H (.int i)
  | str {z : Str} : NoD H (.str z)
  | bl {b : Bool} : NoD H (.bl b)
  | lst {a : Addr} {xs : List V} : H a = some (.lst xs) → NoD H (.ref a)
theorem NoD.ty {H : Hp} {v : V} (h : NoD H v) : ∀ H1, Same H H1 → ∃ t : String, TyX K H1 v (.type t) ∧ kitB t "dict" = some false := fun H1 s1 => by
  cases h with
  | int => exact ⟨"int", .base (.int _), by decide +kernel⟩
  | str => exact ⟨"str", .base (.str _), by decide +kernel⟩
  | bl => exact ⟨"bool", .base (.bl _), by decide +kernel⟩
  | lst h => exact ⟨"list", .base (.lst (s1 _ _ h)), by decide +kernel⟩
theorem NoD.src {C CF : Addr} {H : Hp} {v : V} (h : NoD H v) : Asks (spAreSrcG K C CF) H v false := fun H1 s1 Q q => by
  obtain ⟨t, ty, k⟩ := h.ty (K := K) H1 s1
  exact ⟨_, rfl, .inl ⟨t, ty, k, q H1 (Same.refl _)⟩⟩
theorem NoD.box {C CF : Addr} {H : Hp} {v : V} (h : NoD H v) : Asks (spAreBoxA K C CF) H v false := fun H1 s1 Q q => by
  obtain ⟨t, ty, k⟩ := h.ty (K := K) H1 s1
  exact .inl ⟨_, rfl, .inl ⟨t, ty, k, q H1 (Same.refl _)⟩⟩
theorem NoD.ne {H : Hp} {v : V} (h : NoD H v) : v ≠ .non := by
  cases h <;> exact fun e => by cases e
end
end Un
namespace Un
open PySem L2 TL
section
variable {P : Program} {w : World} {K : PySem.W.Frag} {mg : Str → Option Value} {base : Heap}
open XV
/-! ### the law: what stands, how it is kept -/
theorem TabS_kp {H H' : Hp} {b c : Addr} {q : Addr} {s : Str} (B : Bag H b c) (k : Kp b H H') (t : LamX.TabS H q s) : LamX.TabS H' q s := by
  obtain ⟨ps, h1, h2, h3⟩ := t
  obtain ⟨xs, hb⟩ : ∃ xs, H b = some (.lst xs) := by
    obtain ⟨ns, p, r, s, k, B⟩ := B
    exact ⟨_, B.lb⟩
  refine ⟨ps, k _ _ h1 (ne_of h1 hb (by intro z; cases z)), h2, fun pos cv hc => ?_⟩
  obtain ⟨d, e1, e2⟩ := h3 pos cv hc
  exact ⟨d, e1, k _ _ e2 (ne_of e2 hb (by intro z; cases z))⟩
theorem Tabs_kp {T : List (Addr × Str)} {H H' : Hp} {b c : Addr} (B : Bag H b c) (k : Kp b H H') (t : LamX.Tabs T H) : LamX.Tabs T H' := fun p hp => TabS_kp B k (t p hp)
theorem Bag_ext {H H' : Hp} {b c : Addr} (B : Bag H b c) (e : LamX.ExtN H H') : Bag H' b c := by
  obtain ⟨ns, p, r, s, k, B⟩ := B
  exact ⟨ns, p, r, s, k, e _ _ B.lb (fun ps z => by cases z), e _ _ B.lc (fun ps z => by cases z), B.nl, B.p0, B.s0, B.s1, B.r0⟩
theorem eqv_told {H : Hp} {tf td t1 t1' : Addr} {code : Str} {due : List V} (n : Nat) (h1 : H tf = some (.tup [.str code, .ref t1'])) (h2 : H t1' = some (.tup due)) (h3 : H td = some (.tup [.str code, .ref t1])) (h4 : H t1 = some (.tup due)) (hl : due.length ≤ 2) (lf : ∀ z ∈ due, Leaf z) : Eqv H (n + 2) (.ref tf) (.ref td) := by
  refine .inr ⟨tf, td, [.str code, .ref t1'], [.str code, .ref t1], rfl, rfl, rfl, (by show 2 ≤ 100000; decide), .inr ⟨h1, h3⟩, fun i u v hu hv => ?_⟩
  match i, hu, hv with
  | 0, hu, hv =>
    cases hu
    cases hv
    exact Eqv.leaf (show Leaf (V.str code) from trivial) _
  | 1, hu, hv =>
    cases hu
    cases hv
    refine .inr ⟨t1', t1, due, due, rfl, rfl, rfl, by omega, .inr ⟨h2, h4⟩, fun i u v hu hv => ?_⟩
    rw [hu] at hv
    cases hv
    exact Eqv.leaf (lf u (List.mem_of_getElem? hu)) _
  | n + 2, hu, hv => cases hu

/-- all stays but the bag and tables -/
def Mv (b : Addr) (H H' : Hp) : Prop := ∀ a o, H a = some o → a ≠ b → (∀ ps, o ≠ .tbl ps) → H' a = some o
theorem Mv.kp {b : Addr} {H H' : Hp} (k : Kp b H H') : Mv b H H' := fun a o h n _ => k a o h n
theorem Mv.ext {b : Addr} {H H' : Hp} (k : LamX.ExtN H H') : Mv b H H' := fun a o h _ n => k a o h n
theorem Mv.same {b : Addr} {H H' : Hp} (s : Same H H') : Mv b H H' := fun a o h _ _ => s a o h
theorem bag_lst {H : Hp} {b c a : Addr} {o : HO} (B : Bag H b c) (h : H a = some o) (n : ∀ xs, o ≠ .lst xs) : a ≠ b := fun e => by
  subst e
  obtain ⟨ns, p, r, s, k, B⟩ := B
  have := B.lb.symm.trans h
  exact n _ (Option.some.inj this).symm
theorem SerAt.mv {H H' : Hp} {C a b c : Addr} {u v : SerM.Po} (h : SerAt H C a u v) (B : Bag H b c) (m : Mv b H H') : SerAt H' C a u v := by
  obtain ⟨dx, x, y, z, h1, h2, h3, h4⟩ := h
  exact ⟨dx, x, y, z, m _ _ h1 (bag_lst B h1 fun _ z => by cases z) (fun _ z => by cases z), m _ _ h2 (iv_bag B h2) (fun _ z => by cases z), m _ _ h3 (iv_bag B h3) (fun _ z => by cases z), h4⟩
theorem ValU.mv {H H' : Hp} {C a b c : Addr} {p q : SerM.Po} (h : ValU H C a p q) (B : Bag H b c) (m : Mv b H H') : ValU H' C a p q := by
  obtain ⟨F, u, v, S, R⟩ := h
  exact ⟨F, u, v, S.mv B m, R⟩
theorem TVal.mv {H H' : Hp} {C d b c : Addr} {U : List Key} {kvs : List (Key × V)} {val : Vf} (h : TVal H C d U kvs val) (B : Bag H b c) (m : Mv b H H') : TVal H' C d U kvs val :=
  ⟨m _ _ h.at_ (bag_ne B h.at_) (fun _ z => by cases z), fun p hp => by
    obtain ⟨a, e, h1⟩ := h.ser p hp
    exact ⟨a, e, h1.mv B m⟩, h.nd, h.sub, h.u⟩
theorem FormV.mv {H H' : Hp} {C CF a b c : Addr} {U : List Key} {val : Vf} (h : FormV H C CF a U val) (B : Bag H b c) (m : Mv b H H') : FormV H' C CF a U val := by
  obtain ⟨dx, d1, d2, o, k1, k2, R⟩ := h
  exact ⟨dx, d1, d2, o, k1, k2, m _ _ R.ha (bag_lst B R.ha fun _ z => by cases z) (fun _ z => by cases z), R.t1.mv B m, R.t2.mv B m, R.n1, R.n2, R.nz1, R.nz2, R.z1, R.z2, R.fr, R.ord⟩
theorem TopBot.mv {H H' : Hp} {t b c : Addr} {p q : SerM.Po} (h : TopBot H t p q) (B : Bag H b c) (m : Mv b H H') : TopBot H' t p q := by
  obtain ⟨x, y, h1, h2, h3⟩ := h
  exact ⟨x, y, m _ _ h1 (bag_lst B h1 fun _ z => by cases z) (fun _ z => by cases z), m _ _ h2 (iv_bag B h2) (fun _ z => by cases z), m _ _ h3 (iv_bag B h3) (fun _ z => by cases z)⟩
theorem MTab.mv {S : Key → Prop} {H H' : Hp} {d b c : Addr} {U : List Key} {kvs : List (Key × V)} {mv : Vf} (h : MTab S H d U kvs mv) (B : Bag H b c) (m : Mv b H H') : MTab S H' d U kvs mv :=
  ⟨m _ _ h.at_ (bag_ne B h.at_) (fun _ z => by cases z), fun p hp => by
    obtain ⟨t, e, h1⟩ := h.ent p hp
    exact ⟨t, e, h1.mv B m⟩, h.nd, h.sub, h.u, h.ok, h.df⟩
structure Adr where
  (b c l1 l2 t1 d1 d2 a : Addr)
structure Dat where
  ws : List Str
  is : List Int
  U : List Key
  (k1 k2 : List (Key × V))
  (m1 m2 : Vf)
abbrev Dat.va (v : Dat) : Vf := joinV v.m1 v.m2
abbrev TL' := List (Addr × Str)
/-- what is drawn -/
structure R27 (H : Hp) (x : Adr) (v : Dat) : Prop where
  l1 : H x.l1 = some (.lst (v.ws.map V.str))
  l2 : H x.l2 = some (.lst (v.is.map V.int))
  nl1 : x.l1 ≠ x.b
  nl2 : x.l2 ≠ x.b
  t1 : H x.t1 = some (.tup [.ref x.d1, .ref x.d2])
  d1 : MTab SrcOk H x.d1 v.U v.k1 v.m1
  d2 : MTab BoxOk H x.d2 v.U v.k2 v.m2
theorem R27.mv {H H' : Hp} {x : Adr} {v : Dat} (h : R27 H x v) (B : Bag H x.b x.c) (m : Mv x.b H H') : R27 H' x v :=
  ⟨m _ _ h.l1 h.nl1 (fun _ z => by cases z), m _ _ h.l2 h.nl2 (fun _ z => by cases z), h.nl1, h.nl2, m _ _ h.t1 (bag_lst B h.t1 fun _ z => by cases z) (fun _ z => by cases z), h.d1.mv B m, h.d2.mv B m⟩
structure K27 (T : TL') (C CF : Addr) (H : Hp) (x : Adr) (v : Dat) : Prop where
  bag : Bag H x.b x.c
  tabs : LamX.Tabs T H
  r : R27 H x v
  a : FormV H C CF x.a v.U v.va
theorem K27.mv {T : TL'} {C CF : Addr} {H H' : Hp} {x : Adr} {v : Dat} (k : K27 T C CF H x v) (m : Mv x.b H H') (B' : Bag H' x.b x.c) (t' : LamX.Tabs T H') : K27 T C CF H' x v := ⟨B', t', k.r.mv k.bag m, k.a.mv k.bag m⟩
theorem K27.same {T : TL'} {C CF : Addr} {H H' : Hp} {x : Adr} {v : Dat} (k : K27 T C CF H x v) (s : Same H H') : K27 T C CF H' x v := k.mv (Mv.same s) (k.bag.same s) (k.tabs.ext s)
theorem K27.kp {T : TL'} {C CF : Addr} {H H' : Hp} {x : Adr} {v : Dat} (k : K27 T C CF H x v) (B' : Bag H' x.b x.c) (s : Kp x.b H H') : K27 T C CF H' x v := k.mv (Mv.kp s) B' (Tabs_kp k.bag s k.tabs)
theorem K27.ext {T : TL'} {C CF : Addr} {H H' : Hp} {x : Adr} {v : Dat} (k : K27 T C CF H x v) (e : LamX.ExtN H H') (t' : LamX.Tabs T H') : K27 T C CF H' x v := k.mv (Mv.ext e) (Bag_ext k.bag e) t'
structure N27 (v : Dat) : Prop where
  nm : ∀ z ∈ v.ws, IsNm z
  wl : v.ws.length = 3
  il : v.is.length = 3
  i0 : ∀ i ∈ v.is, 0 ≤ i
  i4 : ∀ i ∈ v.is, i ≠ 4
  u : v.U = v.ws.map Sum.inr ++ v.is.map Sum.inl
  dm1 : ∀ k, D3 (v.m1 k).1 (v.m1 k).2
  dm2 : ∀ k, D3 (v.m2 k).1 (v.m2 k).2
theorem N27.da {v : Dat} (n : N27 v) : ∀ k, D3 (v.va k).1 (v.va k).2 := join_all (P := fun v => D3 v.1 v.2) n.dm1 n.dm2
theorem N27.ul {v : Dat} (n : N27 v) : v.U.length ≤ 40 := by rw [n.u, List.length_append, List.length_map, List.length_map, n.wl, n.il]; decide
/-! ### the law: what it calls, the loop's turns -/
abbrev sLaw : Stmt := top 70
abbrev lawN : List Str := ["_law_script", "_law_bag_here", "_law_turn", "_law_names_here", "_law_indexes", "_law_model", "_law_form", "_law_good", "_law_tops", "_law_orders", "_law_sources_z", "_law_odd_here", "_law_late", "_law_more", "_law_same_here", "_law_one", "_law_wrong", "_law_pairs", "_law_name_z", "_law_index_z", "_law_top", "_law_pair_here"]
theorem scLaw : FnScope lawN ["_law_script"] (defScope sLaw) := ⟨rfl, rfl, rfl, by decide +kernel, rfl, by decide +kernel, by decide +kernel⟩
abbrev lawX (P : Program) (w : World) (K : PySem.W.Frag) (mg : Str → Option Value) (base : Heap) (f : Addr) (cdv : Value) (A : Around) (outer : List Env) (s : Shared) (H0 : Hp) (E : XK) : Cx := (cxOf CX0 P w K mg base lawN "law" (defScope sLaw) f cdv A outer s H0 E).nox
def loopB : List Stmt := match (defBody sLaw)[1]? with
  | some (PySem.Stmt.For _ _ b _ _) => b
  | _ => []
def Dfx (P : Program) (w : World) (K : PySem.W.Frag) (mg : Str → Option Value) (base : Heap) (k : Nat) (x : Str) (ps : List Str) (sp : Sp) : Prop := ∃ g gd, Df P w K mg base k g gd x ps sp
def Omx (P : Program) (w : World) (K : PySem.W.Frag) (mg : Str → Option Value) (base : Heap) (C : Addr) (k : Nat) (m : Str) (ps : List Str) (sp : Sp) : Prop := ∃ g gd, OwnX.OMt P w K mg base C k g gd m ps sp
/-- an error class that `_law_why` tells -/
structure ErC (K : PySem.W.Frag) (cs : List Value) (C : Addr) : Prop where
  xf : XfC K C
  at_ : ∀ n ∈ attrsX, PySem.W.findIn K (.ref C) n = some none
  ex : PySem.W.exmAny K (.ref C) cs = some true
def spSrcU (K : PySem.W.Frag) (C CF : Addr) : Sp := fun vs H Q E => spSource C CF vs H Q E ∨ spSourceO K C vs H Q E
def spBoxU (K : PySem.W.Frag) (C CF : Addr) : Sp := fun vs H Q E => spBox C CF vs H Q E ∨ spBoxO K C vs H Q E
def Mtx (P : Program) (w : World) (K : PySem.W.Frag) (mg : Str → Option Value) (base : Heap) (C : Addr) (k : Nat) (m : Str) (ps : List Str) (sp : Sp) : Prop := ∃ g gd, Mt P w K mg base C k g gd m ps sp
structure MakB (P : Program) (w : World) (K : PySem.W.Frag) (mg : Str → Option Value) (base : Heap) (C CF CI : Addr) (fI : Addr) (fd : FuncData) : Prop where
  mkF : Mk K CF fI
  ok : FnOk P w K mg base (L2.CX P w) 3 fI fd frmPs (spFormBad (spAreSrcG K C CF) (spAreBoxA K C CF) CF CI)
  m : mg "Form" = some (.ref CF)
  b2 : Binds K fd frmPs []
structure LawD (P : Program) (w : World) (K : PySem.W.Frag) (mg : Str → Option Value) (base : Heap) (C CF CI g ff U M' NL : Addr) (oc kV doc pm cdv ct : Value) (od an : Option Addr) (osl : Array (Option Value)) (fdF : FuncData) : Prop where
  T : LawT mg
  srt : mg "sorted" = none
  str : mg "str" = none
  rep : mg "repr" = none
  dic : mg "dict" = none
  sc : SerC K C
  fc : FrmC K CF
  isF : IsS K CF
  isS : IsS K C
  mF : mg "Form" = some (.ref CF)
  made : ∃ fI fd d dv, MakS P w K mg base C fI fd d dv
  madeF : ∃ fI fd, MakF P w K mg base C CF fI fd ∧ MakB P w K mg base C CF CI fI fd ∧ (∃ gg, KBn K fd frmPs 1 ["boxes"] gg (fun vs zs => vs ++ [.non] ++ zs)) ∧ KBn K fd frmPs 1 ["boxes", "sources"] (fun us ws => us ++ ws.reverse) (fun vs zs => vs ++ zs.reverse)
  bag : Dfx P w K mg base 1 "_law_bag" ["_law_script"] (spBag K)
  pull : Dfx P w K mg base 1 "_law_pull" ["_law_bag_here", "_law_many"] spPull
  any : Dfx P w K mg base 2 "_law_any" ["_law_bag_here", "_law_things"] (spAny K)
  same : Dfx P w K mg base 4 "_law_same" ["_law_found", "_law_due"] (spSame 4)
  names : Dfx P w K mg base 3 "_law_names" ["_law_bag_here", "_law_many"] spNames
  mixed : Dfx P w K mg base 2 "_law_mixed" ["_law_bag_here", "_law_things"] (spMixed K)
  quot : Dfx P w K mg base 4 "_law_quotients" ["_law_bag_here", "_law_names_here", "_law_indexes"] (spQuot K)
  leaf : Dfx P w K mg base 7 "_law_leaf_form" ["_law_pairs", "_law_boxes_z"] (spLeaf C CF)
  so : Dfx P w K mg base 8 "_law_leaf_so" ["_law_form", "_law_names_here", "_law_indexes", "_law_model"] (spLeafSo K C CF)
  trim : Dfx P w K mg base 1 "_law_trim" ["_law_cells_here"] (spTrimL K)
  order : Dfx P w K mg base 1 "_law_order" ["_law_top"] (spOrderL K)
  odd : Dfx P w K mg base 3 "_law_odd" ["_law_bag_here", "_law_more"] spOdd
  plus : Dfx P w K mg base 2 "_law_plus" ["_law_one", "_law_other", "_law_factor"] (spPlusL K)
  copies : Dfx P w K mg base 8 "_law_form_copies" ["_law_name_z"] (spCopies C CF)
  src : ∃ g gd, Mt P w K mg base CF 7 g gd "source" ["self", "name"] (spSrcU K C CF) ∧ KBn K gd ["self", "name"] 1 ["name"] (fun us ws => us ++ ws) (fun vs zs => vs ++ zs)
  box : ∃ g gd, Mt P w K mg base CF 7 g gd "box" ["self", "index"] (spBoxU K C CF) ∧ KBn K gd ["self", "index"] 1 ["index"] (fun us ws => us ++ ws) (fun vs zs => vs ++ zs)
  srcs : Mtx P w K mg base CF 1 "sources" ["self"] (spSourcesF C CF)
  boxs : Mtx P w K mg base CF 1 "boxes" ["self"] (spBoxesF C CF)
  eq : Omx P w K mg base CF 4 "__eq__" frmOp (spEqFB C CF)
  eqS : Omx P w K mg base C 1 "__eq__" ["self", "other"] (spEqS C)
  bool : Omx P w K mg base CF 1 "__bool__" ["self"] (spBoolF C CF)
  boolS : Omx P w K mg base C 1 "__bool__" ["self"] (spBoolM C)
  repr : Omx P w K mg base CF 2 "__repr__" ["self"] (spReprF C CF)
  ne : CF ≠ C
  hsub : PySem.W.subIn K (.ref C) (.ref CF) = some false
  er : ErC K [.ref U, .ref M', .ref NL] CI
  lkW : K.lookup g = some ⟨oc, od, .func (PySem.W.fnOf "_law_why" "_law_why" (defArgs sWhy) (defBody sWhy) (defScope sWhy) .none kV doc pm an cdv ct), osl⟩
  hcW : PySem.W.codeIn K cdv "_law_why" = true
  bW : Binds K (PySem.W.fnOf "_law_why" "_law_why" (defArgs sWhy) (defBody sWhy) (defScope sWhy) .none kV doc pm an cdv ct) ["_law_ask"] []
  mW : mg "_law_why" = some (.ref g)
  kW : PySem.W.keepIn K (.ref g) = true
  GFd : ExR.FnE P w K mg base CX0 1 ff fdF ["_law_e"] (spFieldE K)
  bF : Binds K fdF ["_law_e"] []
  kF : PySem.W.keepIn K (.ref ff) = true
  mFd : mg "_law_field" = some (.ref ff)
  mU : mg "UnopenedError" = some (.ref U)
  mM : mg "Missing" = some (.ref M')
  mN : mg "NothingLeft" = some (.ref NL)
/-- from statement n of the loop's body on: from Pre the turn ends in Inv -/
def SegP (X : Cx) (n : Nat) (Pre Inv : L2.St → Hp → Prop) : Prop := ∃ t, PSs X (loopB.drop n) t ∧ ∀ (D : Ends) (σ : L2.St) (H : Hp), Pre σ H → (∀ σ' H', Inv σ' H' → D.nx σ' H' ∧ D.ct σ' H') → t D σ H
def LInv (T : TL') (scr : Addr) (σ : L2.St) (H : Hp) : Prop := ∃ b c : Addr, Bag H b c ∧ LamX.Tabs T H ∧ ∃ v2 v3 v4 v5 v6 v7 v8 v9 v10 v11 v12 v13 v14 v15 v16 v17 v18 v19 v20 v21 : Option V, σ = [some (.ref scr), some (.ref b), v2, v3, v4, v5, v6, v7, v8, v9, v10, v11, v12, v13, v14, v15, v16, v17, v18, v19, v20, v21]
def PreA (T : TL') (C CF scr : Addr) (σ : L2.St) (H : Hp) : Prop := ∃ (x : Adr) (v : Dat), K27 T C CF H x v ∧ N27 v ∧ ∃ v2 v7 v8 v9 v10 v11 v12 v13 v14 v15 v16 v17 v18 v19 v20 v21 : Option V, σ = [some (.ref scr), some (.ref x.b), v2, some (.ref x.l1), some (.ref x.l2), some (.ref x.t1), some (.ref x.a), v7, v8, v9, v10, v11, v12, v13, v14, v15, v16, v17, v18, v19, v20, v21]
end
end Un
namespace Un
open PySem L2 TL
section
variable {P : Program} {w : World} {K : PySem.W.Frag} {mg : Str → Option Value} {base : Heap}
theorem strs_of {P : Str → Prop} {ys : List V} (h : ∀ y ∈ ys, ∃ z, y = V.str z ∧ P z) : ∃ zs : List Str, ys = zs.map V.str ∧ ∀ z ∈ zs, P z := by
  induction ys with
  | nil => exact ⟨[], rfl, fun z hz => nomatch hz⟩
  | cons y r ih =>
    obtain ⟨zs, e, hz⟩ := ih fun y' hy => h y' (List.mem_cons_of_mem _ hy)
    obtain ⟨z, ez, pz⟩ := h y List.mem_cons_self
    refine ⟨z :: zs, by rw [e, ez]; rfl, fun z' hz' => ?_⟩
    rcases List.mem_cons.mp hz' with e' | h'
    · rw [e']; exact pz
    · exact hz z' h'
theorem ints_of {P : Int → Prop} {ys : List V} (h : ∀ y ∈ ys, ∃ z, y = V.int z ∧ P z) : ∃ zs : List Int, ys = zs.map V.int ∧ ∀ z ∈ zs, P z := by
  induction ys with
  | nil => exact ⟨[], rfl, fun z hz => nomatch hz⟩
  | cons y r ih =>
    obtain ⟨zs, e, hz⟩ := ih fun y' hy => h y' (List.mem_cons_of_mem _ hy)
    obtain ⟨z, ez, pz⟩ := h y List.mem_cons_self
    refine ⟨z :: zs, by rw [e, ez]; rfl, fun z' hz' => ?_⟩
    rcases List.mem_cons.mp hz' with e' | h'
    · rw [e']; exact pz
    · exact hz z' h'
section
variable {C CF CI g ff U M' NL f scr c0 P0 : Addr} {oc kV doc pm cdw ct : Value} {od an : Option Addr} {osl : Array (Option Value)} {fdF : FuncData} {T : TL'} {A : Around} {outer : List Env} {s : Shared} {H0 : Hp} {E : XK} {J : L2.St → Hp → Prop}
theorem segA (L : LawD P w K mg base C CF CI g ff U M' NL oc kV doc pm cdw ct od an osl fdF) (TB : LamX.TabB base mg c0 P0) (hT : T = [(P0, (lawX P w K mg base f (.ref c0) A outer s H0 E).env.qual ++ "<lambda>")]) (hr : Room 14 (lawX P w K mg base f (.ref c0) A outer s H0 E).A) (next : SegP (lawX P w K mg base f (.ref c0) A outer s H0 E) 4 (PreA T C CF scr) J) : SegP (lawX P w K mg base f (.ref c0) A outer s H0 E) 0 (LInv T scr) J := by
  obtain ⟨t, ht, hq⟩ := next
  have C' := L.fc
  have cS := L.sc
  have Tx := L.T
  have msorted := L.srt
  obtain ⟨_, _, DP⟩ := L.pull
  obtain ⟨_, _, DA⟩ := L.any
  obtain ⟨_, _, DS⟩ := L.same
  obtain ⟨_, _, DNm⟩ := L.names
  obtain ⟨_, _, DMx⟩ := L.mixed
  obtain ⟨_, _, DQ⟩ := L.quot
  obtain ⟨_, _, DLf⟩ := L.leaf
  obtain ⟨_, _, DSo⟩ := L.so
  obtain ⟨_, _, DTr⟩ := L.trim
  obtain ⟨_, _, DOr⟩ := L.order
  obtain ⟨_, _, DOd⟩ := L.odd
  obtain ⟨_, _, DPl⟩ := L.plus
  obtain ⟨_, _, DCo⟩ := L.copies
  obtain ⟨_, _, MSs⟩ := L.srcs
  obtain ⟨_, _, MBs⟩ := L.boxs
  obtain ⟨_, _, MEq⟩ := L.eq
  obtain ⟨_, _, MEqS⟩ := L.eqS
  obtain ⟨_, _, MBool⟩ := L.bool
  obtain ⟨_, _, MBoolS⟩ := L.boolS
  obtain ⟨_, _, MRepr⟩ := L.repr
  obtain ⟨_, _, MF, MFB, ⟨_, kF1⟩, kF2⟩ := L.madeF
  obtain ⟨_, _, MSo, kSo⟩ := L.src
  obtain ⟨_, _, MBo, kBo⟩ := L.box
  obtain ⟨fI, fdI, d, dv, MS⟩ := L.made
  refine ⟨_, (pss_cons (ps_set (i := 3) scLaw.nd rfl (by first | exact Or.inl rfl | exact Or.inr rfl) (pe_call DMx.ok (hr.mono (by decide)) (by rfl) DMx.m DMx.kp DMx.b .nil pass0 (pa_cons (pv 1) (pa_cons (pe_call DNm.ok (hr.mono (by decide)) (by rfl) DNm.m DNm.kp DNm.b .nil pass0 (pa_cons (pv 1) (pa_cons pe_int pa_nil))) pa_nil))))
 (pss_cons (ps_set (i := 4) scLaw.nd rfl (by first | exact Or.inl rfl | exact Or.inr rfl) (pe_call DMx.ok (hr.mono (by decide)) (by rfl) DMx.m DMx.kp DMx.b .nil pass0 (pa_cons (pv 1) (pa_cons (pe_lst (pa_cons pe_int (pa_cons (pe_op op_add pe_int (pe_call DP.ok (hr.mono (by decide)) (by rfl) DP.m DP.kp DP.b .nil pass0 (pa_cons (pv 1) (pa_cons pe_int pa_nil)))) (pa_cons (pe_op op_add pe_int (pe_call DP.ok (hr.mono (by decide)) (by rfl) DP.m DP.kp DP.b .nil pass0 (pa_cons (pv 1) (pa_cons pe_int pa_nil)))) pa_nil)))) pa_nil))))
 (pss_cons (ps_set (i := 5) scLaw.nd rfl (by first | exact Or.inl rfl | exact Or.inr rfl) (pe_call DQ.ok (hr.mono (by decide)) (by rfl) DQ.m DQ.kp DQ.b .nil pass0 (pa_cons (pv 1) (pa_cons (pv 3) (pa_cons (pv 4) pa_nil)))))
 (pss_cons (ps_set (i := 6) scLaw.nd rfl (by first | exact Or.inl rfl | exact Or.inr rfl) (pe_call DLf.ok (hr.mono (by decide)) (by rfl) DLf.m DLf.kp DLf.b .nil pass0 (pa_cons (pe_ix ix_tup (pv 5) pe_int (fun _ _ => rfl)) (pa_cons (pe_ix ix_tup (pv 5) pe_int (fun _ _ => rfl)) pa_nil))))
 ht)))), fun D σ H pre post => ?_⟩
  obtain ⟨b, c, B, tb, v2, v3, v4, v5, v6, v7, v8, v9, v10, v11, v12, v13, v14, v15, v16, v17, v18, v19, v20, v21, rfl⟩ := pre
  have hsz : 1000000 < sizeLine := by decide
  refine ⟨_, rfl, _, rfl, b, c, 3, rfl, B, by decide, by decide, fun l ws0 H1 hl hw B1 k1 hn hl' => ?_⟩
  have wl0 : ws0.length = 3 := by omega
  have nlb : l ≠ b := fun e => by
    obtain ⟨o, ho⟩ := B.there
    rw [e, ho] at hn; cases hn
  refine ⟨b, c, l, ws0.map V.str, rfl, B1, nlb, SqL.of hl', by rw [List.length_map]; omega, fun l1 ys H2 hp B2 k2 hn1 n1 h1 => ?_⟩
  obtain ⟨ws, eys, hnm⟩ := strs_of (P := IsNm) (ys := ys) fun y hy => by
    obtain ⟨z, hz, e⟩ := List.mem_map.mp (hp.mem_iff.mp hy)
    exact ⟨z, e.symm, hw z hz⟩
  have wl : ws.length = 3 := by
    have := hp.length_eq
    rw [eys, List.length_map, List.length_map] at this
    omega
  rw [eys] at h1
  have tb2 := Tabs_kp B1 k2 (Tabs_kp B k1 tb)
  -- the indexes
  refine ⟨_, rfl, _, rfl, b, c, 3, rfl, B2, by decide, by decide, fun y1 H3 y10 y11 B3 k3 => ?_⟩
  have h1 := k3 _ _ h1 n1
  have tb3 := Tabs_kp B2 k3 tb2
  refine ⟨_, _, rfl, rfl, _, rfl, b, c, 8, rfl, B3, by decide, by decide, fun y2 H4 y20 y21 B4 k4 => ?_⟩
  have h1 := k4 _ _ h1 n1
  have tb4 := Tabs_kp B3 k4 tb3
  refine ⟨_, _, rfl, rfl, ?_⟩
  obtain ⟨z1, ez1⟩ : ∃ z, z = 1 + y1 := ⟨_, rfl⟩
  obtain ⟨z2, ez2⟩ : ∃ z, z = 5 + y2 := ⟨_, rfl⟩
  refine ⟨(by show 3 ≤ sizeLine; decide), fun l0 hl0 => ?_⟩
  have ev : ([V.int 0, (fun (i j : Int) => V.int (i + j)) 1 y1, (fun (i j : Int) => V.int (i + j)) 5 y2] : List V) = [0, z1, z2].map V.int := by rw [ez1, ez2]; rfl
  have s5 := same_upd hl0 (.lst [V.int 0, (fun (i j : Int) => V.int (i + j)) 1 y1, (fun (i j : Int) => V.int (i + j)) 5 y2])
  have g5 : upd H4 l0 (.lst [V.int 0, (fun (i j : Int) => V.int (i + j)) 1 y1, (fun (i j : Int) => V.int (i + j)) 5 y2]) l0 = some (.lst ([0, z1, z2].map V.int)) := by rw [upd_same, ev]
  have n5 : l0 ≠ b := fun e => by
    obtain ⟨o, ho⟩ := B4.there
    rw [e, ho] at hl0; cases hl0
  generalize upd H4 l0 (.lst [V.int 0, (fun (i j : Int) => V.int (i + j)) 1 y1, (fun (i j : Int) => V.int (i + j)) 5 y2]) = H5 at s5 g5 ⊢
  have h1 := s5 _ _ h1
  have B5 := B4.same s5
  have tb5 := tb4.ext s5
  refine ⟨b, c, l0, _, rfl, B5, n5, SqL.of g5, by rw [List.length_map]; (show 3 ≤ 1000); decide, fun l2 ys2 H6 hp2 B6 k6 hn2 n2 g2 => ?_⟩
  obtain ⟨is, eis, hi⟩ := ints_of (P := fun i => 0 ≤ i ∧ i ≠ 4) (ys := ys2) fun y hy => by
    obtain ⟨z, hz, e⟩ := List.mem_map.mp (hp2.mem_iff.mp hy)
    refine ⟨z, e.symm, ?_⟩
    simp only [List.mem_cons, List.not_mem_nil, or_false] at hz
    rcases hz with rfl | rfl | rfl <;> omega
  have il : is.length = 3 := by
    have := hp2.length_eq
    rw [eis, List.length_map, List.length_map] at this
    exact this
  rw [eis] at g2
  have h1 := k6 _ _ h1 n1
  have tb6 := Tabs_kp B5 k6 tb5
  obtain ⟨U', hU⟩ : ∃ U' : List Key, U' = ws.map Sum.inr ++ is.map Sum.inl := ⟨_, rfl⟩
  have ul : U'.length ≤ 40 := by rw [hU, List.length_append, List.length_map, List.length_map, wl, il]; decide
  have wu : ∀ z ∈ ws, Sum.inr z ∈ U' := fun z hz => by rw [hU]; exact List.mem_append_left _ (List.mem_map.mpr ⟨z, hz, rfl⟩)
  have iu : ∀ i ∈ is, Sum.inl i ∈ U' := fun i hi => by rw [hU]; exact List.mem_append_right _ (List.mem_map.mpr ⟨i, hi, rfl⟩)
  -- the quotients
  refine ⟨_, rfl, _, rfl, _, rfl, b, c, l1, l2, ws, is, U', rfl, B6, n1, n2, SqL.of h1, SqL.of g2, by omega, by omega, hnm, fun i h => (hi i h).1, wu, iu, ul, fun t1 d1 d2 k1' k2' m1 m2 H7 B7 k7 ht1 g1 M1 M2 D1 D2 => ?_⟩
  have h1 := k7 _ _ h1 n1
  have g2 := k7 _ _ g2 n2
  have tb7 := Tabs_kp B6 k7 tb6
  -- the form
  refine ⟨_, rfl, t1, _, _, _, rfl, rfl, SqT.of g1, rfl, _, rfl, t1, _, _, _, rfl, rfl, SqT.of g1, rfl, d1, d2, U', k1', k2', m1, m2, rfl, M1, M2, fun k => (D1 k).frac, fun k => (D2 k).frac, fun a H8 s8 Na => ?_⟩
  exact hq D _ _ ⟨⟨b, c, l1, l2, t1, d1, d2, a⟩, ⟨ws, is, U', k1', k2', m1, m2⟩, ⟨B7.same s8, tb7.ext s8, ⟨s8 _ _ h1, s8 _ _ g2, n1, n2, s8 _ _ g1, M1.same s8, M2.same s8⟩, Na.v⟩, ⟨hnm, wl, il, fun i h => (hi i h).1, fun i h => (hi i h).2, hU, D1, D2⟩, _, _, _, _, _, _, _, _, _, _, _, _, _, _, _, _, rfl⟩ post
end
end
end Un
namespace Un
open PySem L2 TL
section
variable {P : Program} {w : World} {K : PySem.W.Frag} {mg : Str → Option Value} {base : Heap}
def PreB (T : TL') (C CF scr : Addr) (σ : L2.St) (H : Hp) : Prop := ∃ (x : Adr) (v : Dat), K27 T C CF H x v ∧ N27 v ∧ ∃ v2 v8 v9 v10 v11 v12 v13 v14 v15 v16 v17 v18 v19 v20 v21 : Option V, σ = [some (.ref scr), some (.ref x.b), v2, some (.ref x.l1), some (.ref x.l2), some (.ref x.t1), some (.ref x.a), some (.bl true), v8, v9, v10, v11, v12, v13, v14, v15, v16, v17, v18, v19, v20, v21]
theorem same_app {H H1 : Hp} {l : Addr} {o : HO} (s : Same H H1) (h : H l = none) : Same H (upd H1 l o) := fun a u e => by rw [upd_ne (ne_of_none e h)]; exact s _ _ e
section
variable {C CF CI g ff U M' NL f scr c0 P0 : Addr} {oc kV doc pm cdw ct : Value} {od an : Option Addr} {osl : Array (Option Value)} {fdF : FuncData} {T : TL'} {A : Around} {outer : List Env} {s : Shared} {H0 : Hp} {E : XK} {J : L2.St → Hp → Prop}
theorem segB (L : LawD P w K mg base C CF CI g ff U M' NL oc kV doc pm cdw ct od an osl fdF) (TB : LamX.TabB base mg c0 P0) (hT : T = [(P0, (lawX P w K mg base f (.ref c0) A outer s H0 E).env.qual ++ "<lambda>")]) (hr : Room 14 (lawX P w K mg base f (.ref c0) A outer s H0 E).A) (next : SegP (lawX P w K mg base f (.ref c0) A outer s H0 E) 7 (PreB T C CF scr) J) : SegP (lawX P w K mg base f (.ref c0) A outer s H0 E) 4 (PreA T C CF scr) J := by
  obtain ⟨t, ht, hq⟩ := next
  have C' := L.fc
  have cS := L.sc
  have Tx := L.T
  have msorted := L.srt
  obtain ⟨_, _, DP⟩ := L.pull
  obtain ⟨_, _, DA⟩ := L.any
  obtain ⟨_, _, DS⟩ := L.same
  obtain ⟨_, _, DNm⟩ := L.names
  obtain ⟨_, _, DMx⟩ := L.mixed
  obtain ⟨_, _, DQ⟩ := L.quot
  obtain ⟨_, _, DLf⟩ := L.leaf
  obtain ⟨_, _, DSo⟩ := L.so
  obtain ⟨_, _, DTr⟩ := L.trim
  obtain ⟨_, _, DOr⟩ := L.order
  obtain ⟨_, _, DOd⟩ := L.odd
  obtain ⟨_, _, DPl⟩ := L.plus
  obtain ⟨_, _, DCo⟩ := L.copies
  obtain ⟨_, _, MSs⟩ := L.srcs
  obtain ⟨_, _, MBs⟩ := L.boxs
  obtain ⟨_, _, MEq⟩ := L.eq
  obtain ⟨_, _, MEqS⟩ := L.eqS
  obtain ⟨_, _, MBool⟩ := L.bool
  obtain ⟨_, _, MBoolS⟩ := L.boolS
  obtain ⟨_, _, MRepr⟩ := L.repr
  obtain ⟨_, _, MF, MFB, ⟨_, kF1⟩, kF2⟩ := L.madeF
  obtain ⟨_, _, MSo, kSo⟩ := L.src
  obtain ⟨_, _, MBo, kBo⟩ := L.box
  obtain ⟨fI, fdI, d, dv, MS⟩ := L.made
  refine ⟨_, (pss_cons (ps_set (i := 7) scLaw.nd rfl (by first | exact Or.inl rfl | exact Or.inr rfl) (pe_call DSo.ok (hr.mono (by decide)) (by rfl) DSo.m DSo.kp DSo.b .nil pass0 (pa_cons (pv 6) (pa_cons (pv 3) (pa_cons (pv 4) (pa_cons (pv 5) pa_nil))))))
 (pss_cons (ps_expr (pe_bm PySem.F.plainAttrs_list PySem.F.slot_list_append PySem.F.type_list_append mt_append (pe_meth0 (pv 6) C'.cl MSs.mt MSs.ok (hr.mono (by decide)) MSs.b .nil pass0) (pa_cons pe_str pa_nil)))
 (pss_cons (ps_expr (pe_bm PySem.F.plainAttrs_list PySem.F.slot_list_append PySem.F.type_list_append mt_append (pe_meth0 (pv 6) C'.cl MBs.mt MBs.ok (hr.mono (by decide)) MBs.b .nil pass0) (pa_cons pe_int pa_nil)))
 ht))), fun D σ H pre post => ?_⟩
  obtain ⟨x, v, k, N, v2, v7, v8, v9, v10, v11, v12, v13, v14, v15, v16, v17, v18, v19, v20, v21, rfl⟩ := pre
  have hsz : 1000000 < sizeLine := by decide
  have wl : ∀ z ∈ v.ws, z.length ≤ 1000 := fun z hz => by have := (N.nm z hz).l4; omega
  refine ⟨_, rfl, _, rfl, _, rfl, _, rfl, x.a, x.l1, x.l2, x.t1, x.d1, x.d2, v.U, v.ws, v.is, v.k1, v.k2, v.m1, v.m2, rfl, k.a, SqL.of k.r.l1, SqL.of k.r.l2, wl, SqT.of k.r.t1, k.r.d1, k.r.d2, fun H1 s1 => ?_⟩
  have k := k.same s1
  obtain ⟨dx, d1, d2, o, q1, q2, R⟩ := id k.a
  refine ⟨_, rfl, x.a, dx, _, rfl, R.ha, rfl, x.a, v.U, v.va, rfl, k.a, fun l ys H2 s2 hl h2 S => ?_⟩
  refine ⟨.inl ⟨rfl, _, SqL.of h2⟩, l, _, _, rfl, rfl, h2, by have := S.l; rw [List.length_map]; omega, ?_⟩
  have k := k.same (same_app (o := .lst (ys.map V.str ++ [V.str "x"])) s2 hl)
  generalize upd H2 l (.lst (ys.map V.str ++ [V.str "x"])) = H3 at k ⊢
  obtain ⟨dx, d1, d2, o, q1, q2, R⟩ := id k.a
  refine ⟨_, rfl, x.a, dx, _, rfl, R.ha, rfl, x.a, v.U, v.va, rfl, k.a, fun l ys H4 s4 hl h4 S => ?_⟩
  refine ⟨.inl ⟨rfl, _, SqL.of h4⟩, l, _, _, rfl, rfl, h4, by have := S.l; rw [List.length_map]; omega, ?_⟩
  exact hq D _ _ ⟨x, v, k.same (same_app s4 hl), N, _, _, _, _, _, _, _, _, _, _, _, _, _, _, _, rfl⟩ post
end
end
end Un
namespace Un
open PySem L2 TL
section
variable {P : Program} {w : World} {K : PySem.W.Frag} {mg : Str → Option Value} {base : Heap}
/-- where the tops stand -/
structure TopsAt (H : Hp) (v : Dat) (lt : Addr) (ks : List Key) (tr : Key → Addr) : Prop where
  at_ : H lt = some (.lst (ks.map fun k => V.ref (tr k)))
  top : ∀ k ∈ ks, H (tr k) = some (.lst (iv (v.va k).1))
  cov : ∀ k, ¬ Zp (v.va k) → k ∈ ks
  l : ks.length ≤ 12
def PreC (T : TL') (C CF scr : Addr) (σ : L2.St) (H : Hp) : Prop := ∃ (x : Adr) (v : Dat) (lt : Addr) (ks : List Key) (tr : Key → Addr), K27 T C CF H x v ∧ N27 v ∧ TopsAt H v lt ks tr ∧ ∃ v2 v9 v10 v11 v12 v13 v14 v15 v16 v17 v18 v19 v20 v21 : Option V, σ = [some (.ref scr), some (.ref x.b), v2, some (.ref x.l1), some (.ref x.l2), some (.ref x.t1), some (.ref x.a), some (.bl true), some (.ref lt), v9, v10, v11, v12, v13, v14, v15, v16, v17, v18, v19, v20, v21]
theorem tops_rd {S : Key → Prop} {H : Hp} {d : Addr} {U : List Key} {kvs : List (Key × V)} {m : Vf} (M : MTab S H d U kvs m) : ∃ tr : Key → Addr, ∀ k ∈ kvs.map (·.1), ∃ t y : Addr, valV kvs k = some (.ref t) ∧ H t = some (.tup [.ref (tr k), .ref y]) ∧ H (tr k) = some (.lst (iv (m k).1)) := by
  have : ∀ k : Key, ∃ x : Addr, k ∈ kvs.map (·.1) → ∃ t y : Addr, valV kvs k = some (.ref t) ∧ H t = some (.tup [.ref x, .ref y]) ∧ H x = some (.lst (iv (m k).1)) := fun k => by
    by_cases h : k ∈ kvs.map (·.1)
    · obtain ⟨t, e, tx, ty, h1, h2, h3⟩ := val_of_key M h
      exact ⟨tx, fun _ => ⟨t, ty, e, h1, h2⟩⟩
    · exact ⟨d, fun h' => absurd h' h⟩
  exact ⟨fun k => (this k).choose, fun k h => (this k).choose_spec h⟩
theorem MTab.l6 {S : Key → Prop} {H : Hp} {d : Addr} {v : Dat} {kvs : List (Key × V)} {m : Vf} (M : MTab S H d v.U kvs m) (N : N27 v) : kvs.length ≤ 6 := by
  have := len_sub (U := v.U) M.nd fun k hk => by
    obtain ⟨p, hp, e⟩ := List.mem_map.mp hk
    rw [← e]; exact M.sub p hp
  rw [N.u, List.length_append, List.length_map, List.length_map, List.length_map, N.wl, N.il] at this
  omega
theorem src_of {H : Hp} {d : Addr} {U : List Key} {kvs : List (Key × V)} {m : Vf} (M : MTab SrcOk H d U kvs m) {k : Key} (h : k ∈ kvs.map (·.1)) : SrcK k := by
  obtain ⟨p, hp, rfl⟩ := List.mem_map.mp h
  exact src_ok (M.ok p hp)
theorem box_of {H : Hp} {d : Addr} {U : List Key} {kvs : List (Key × V)} {m : Vf} (M : MTab BoxOk H d U kvs m) {k : Key} (h : k ∈ kvs.map (·.1)) : BoxK k := by
  obtain ⟨p, hp, rfl⟩ := List.mem_map.mp h
  exact box_ok (M.ok p hp)
section
variable {C CF CI g ff U M' NL f scr c0 P0 : Addr} {oc kV doc pm cdw ct : Value} {od an : Option Addr} {osl : Array (Option Value)} {fdF : FuncData} {T : TL'} {A : Around} {outer : List Env} {s : Shared} {H0 : Hp} {E : XK} {J : L2.St → Hp → Prop}
theorem segC (L : LawD P w K mg base C CF CI g ff U M' NL oc kV doc pm cdw ct od an osl fdF) (TB : LamX.TabB base mg c0 P0) (hT : T = [(P0, (lawX P w K mg base f (.ref c0) A outer s H0 E).env.qual ++ "<lambda>")]) (hr : Room 14 (lawX P w K mg base f (.ref c0) A outer s H0 E).A) (next : SegP (lawX P w K mg base f (.ref c0) A outer s H0 E) 8 (PreC T C CF scr) J) : SegP (lawX P w K mg base f (.ref c0) A outer s H0 E) 7 (PreB T C CF scr) J := by
  obtain ⟨t, ht, hq⟩ := next
  have C' := L.fc
  have cS := L.sc
  have Tx := L.T
  have msorted := L.srt
  obtain ⟨_, _, DP⟩ := L.pull
  obtain ⟨_, _, DA⟩ := L.any
  obtain ⟨_, _, DS⟩ := L.same
  obtain ⟨_, _, DNm⟩ := L.names
  obtain ⟨_, _, DMx⟩ := L.mixed
  obtain ⟨_, _, DQ⟩ := L.quot
  obtain ⟨_, _, DLf⟩ := L.leaf
  obtain ⟨_, _, DSo⟩ := L.so
  obtain ⟨_, _, DTr⟩ := L.trim
  obtain ⟨_, _, DOr⟩ := L.order
  obtain ⟨_, _, DOd⟩ := L.odd
  obtain ⟨_, _, DPl⟩ := L.plus
  obtain ⟨_, _, DCo⟩ := L.copies
  obtain ⟨_, _, MSs⟩ := L.srcs
  obtain ⟨_, _, MBs⟩ := L.boxs
  obtain ⟨_, _, MEq⟩ := L.eq
  obtain ⟨_, _, MEqS⟩ := L.eqS
  obtain ⟨_, _, MBool⟩ := L.bool
  obtain ⟨_, _, MBoolS⟩ := L.boolS
  obtain ⟨_, _, MRepr⟩ := L.repr
  obtain ⟨_, _, MF, MFB, ⟨_, kF1⟩, kF2⟩ := L.madeF
  obtain ⟨_, _, MSo, kSo⟩ := L.src
  obtain ⟨_, _, MBo, kBo⟩ := L.box
  obtain ⟨fI, fdI, d, dv, MS⟩ := L.made
  refine ⟨_, (pss_cons (ps_set (i := 8) scLaw.nd rfl (by first | exact Or.inl rfl | exact Or.inr rfl) (pe_op op_cat (pe_lc (own := [("_law_name_z", 18)]) (g := (gName 18)) rfl scLaw.nd (pi_list (pe_callB (call_sortedK rfl) (by rfl) msorted (by decide +kernel) (pa_cons (pe_ix ix_tup (pv 5) pe_int (fun _ _ => rfl)) pa_nil))) (blkOk_by (own := [("_law_name_z", 18)]) (N := ["_law_script", "_law_bag_here", "_law_turn", "_law_names_here", "_law_indexes", "_law_model", "_law_form", "_law_good", "_law_tops", "_law_orders", "_law_sources_z", "_law_odd_here", "_law_late", "_law_more", "_law_same_here", "_law_one", "_law_wrong", "_law_pairs", "_law_name_z", "_law_index_z", "_law_top", "_law_pair_here"]) (sc := defScope sLaw) (by decide +kernel)) (fun _ _ _ _ _ => (pg_name (i := 18) scLaw.nd rfl (Or.inl rfl) (Or.inr rfl))) (fun _ _ _ _ _ => pts_nil) (fun _ _ _ _ _ => (pe_ix (ixTK (K := K) rfl) (pe_dget (hu_of hr) (pe_ix (ixTK (K := K) rfl) (pv 5) pe_int (fun _ _ => rfl)) (pv 18) (fun _ _ => rfl)) pe_int (fun _ _ => rfl)))) (pe_lc (own := [("_law_index_z", 19)]) (g := (gName 19)) rfl scLaw.nd (pi_list (pe_callB (call_sortedK rfl) (by rfl) msorted (by decide +kernel) (pa_cons (pe_ix ix_tup (pv 5) pe_int (fun _ _ => rfl)) pa_nil))) (blkOk_by (own := [("_law_index_z", 19)]) (N := ["_law_script", "_law_bag_here", "_law_turn", "_law_names_here", "_law_indexes", "_law_model", "_law_form", "_law_good", "_law_tops", "_law_orders", "_law_sources_z", "_law_odd_here", "_law_late", "_law_more", "_law_same_here", "_law_one", "_law_wrong", "_law_pairs", "_law_name_z", "_law_index_z", "_law_top", "_law_pair_here"]) (sc := defScope sLaw) (by decide +kernel)) (fun _ _ _ _ _ => (pg_name (i := 19) scLaw.nd rfl (Or.inl rfl) (Or.inr rfl))) (fun _ _ _ _ _ => pts_nil) (fun _ _ _ _ _ => (pe_ix (ixTK (K := K) rfl) (pe_dget (hu_of hr) (pe_ix (ixTK (K := K) rfl) (pv 5) pe_int (fun _ _ => rfl)) (pv 19) (fun _ _ => rfl)) pe_int (fun _ _ => rfl))))))
 ht), fun D σ H pre post => ?_⟩
  obtain ⟨x, v, k, N, v2, v8, v9, v10, v11, v12, v13, v14, v15, v16, v17, v18, v19, v20, v21, rfl⟩ := pre
  have hsz : 1000000 < sizeLine := by decide
  have M1 := k.r.d1
  have M2 := k.r.d2
  have t1 := k.r.t1
  have l1 := M1.l6 N
  have l2 := M2.l6 N
  obtain ⟨tr1, htr1⟩ := tops_rd M1
  obtain ⟨tr2, htr2⟩ := tops_rd M2
  -- the sources
  refine ⟨_, rfl, x.t1, _, _, _, rfl, rfl, SqT.of t1, rfl, x.d1, v.k1, rfl, .inl M1.at_, onek_s M1.ok, by omega, fun ys l hp hs hl => ?_⟩
  have s1 := same_upd hl (.lst (ys.map L2.kV))
  have gl : upd H l (.lst (ys.map L2.kV)) l = some (.lst (ys.map L2.kV)) := upd_same
  generalize upd H l (.lst (ys.map L2.kV)) = H1 at s1 gl ⊢
  have yl : ys.length ≤ 6 := by
    have := hp.length_eq
    rw [List.length_map] at this
    omega
  refine ⟨l, rfl, ⟨_, SqL.of gl⟩, fun D1 hD => ?_⟩
  refine lc_it (walk_list (K := K) (xs := ys.map L2.kV)) (fun i H2 => Same H1 H2 ∧ H2 D1 = some (.lst ((ys.take i).map fun k => V.ref (tr1 k)))) ⟨same_upd hD _, upd_same⟩ (fun i H5 _ h => h.1.seq (SqL.of gl)) ?_ ?_
  · rintro i y H2 H3 hi ⟨s2, h2⟩ ⟨rfl, hy⟩
    rw [List.getElem?_map] at hy
    obtain ⟨kk, hki, rfl⟩ := Option.map_eq_some_iff.mp hy
    have hmem : kk ∈ v.k1.map (·.1) := hp.mem_iff.mp (List.mem_of_getElem? hki)
    have s12 := s1.trans s2
    obtain ⟨t', y', ev', ht, hx⟩ := htr1 kk hmem
    have gk : DGet H3 x.d1 (L2.kV kk) (some (.ref t')) := by rw [← ev']; exact DGet.k (s12 _ _ M1.at_)
    refine ⟨rfl, _, rfl, x.t1, _, _, _, rfl, rfl, SqT.of (s12 _ _ t1), rfl, _, rfl, x.d1, _, rfl, gk, t', _, _, _, rfl, rfl, SqT.of (s12 _ _ ht), rfl, ?_⟩
    refine ⟨_, h2, small1000 (by rw [List.length_map, List.length_take]; omega), same_app s2 hD, ?_⟩
    rw [upd_same, take_snoc hki, List.map_append]; rfl
  rintro H2 ⟨s2, h2⟩
  rw [List.length_map, List.take_of_length_le (Nat.le_refl _)] at h2
  have s02 := s1.trans s2
  -- the boxes
  refine ⟨_, rfl, x.t1, _, _, _, rfl, rfl, SqT.of (s02 _ _ t1), rfl, x.d2, v.k2, rfl, .inl (s02 _ _ M2.at_), onek_b M2.ok, by omega, fun zs l' hp2 hs2 hl2 => ?_⟩
  have s3 := s02.trans (same_upd hl2 (.lst (zs.map L2.kV)))
  have h2 := same_upd hl2 (.lst (zs.map L2.kV)) _ _ h2
  have gl2 : upd H2 l' (.lst (zs.map L2.kV)) l' = some (.lst (zs.map L2.kV)) := upd_same
  generalize upd H2 l' (.lst (zs.map L2.kV)) = H3 at s3 h2 gl2 ⊢
  have zl : zs.length ≤ 6 := by
    have := hp2.length_eq
    rw [List.length_map] at this
    omega
  refine ⟨l', rfl, ⟨_, SqL.of gl2⟩, fun D2 hD2 => ?_⟩
  refine lc_it (walk_list (K := K) (xs := zs.map L2.kV)) (fun i H4 => Same H3 H4 ∧ H4 D2 = some (.lst ((zs.take i).map fun k => V.ref (tr2 k)))) ⟨same_upd hD2 _, upd_same⟩ (fun i H5 _ h => h.1.seq (SqL.of gl2)) ?_ ?_
  · rintro i y H4 H5 hi ⟨s4, h4⟩ ⟨rfl, hy⟩
    rw [List.getElem?_map] at hy
    obtain ⟨kk, hki, rfl⟩ := Option.map_eq_some_iff.mp hy
    have hmem : kk ∈ v.k2.map (·.1) := hp2.mem_iff.mp (List.mem_of_getElem? hki)
    have s14 := s3.trans s4
    obtain ⟨t', y', ev', ht, hx⟩ := htr2 kk hmem
    have gk : DGet H5 x.d2 (L2.kV kk) (some (.ref t')) := by rw [← ev']; exact DGet.k (s14 _ _ M2.at_)
    refine ⟨rfl, _, rfl, x.t1, _, _, _, rfl, rfl, SqT.of (s14 _ _ t1), rfl, _, rfl, x.d2, _, rfl, gk, t', _, _, _, rfl, rfl, SqT.of (s14 _ _ ht), rfl, ?_⟩
    refine ⟨_, h4, small1000 (by rw [List.length_map, List.length_take]; omega), same_app s4 hD2, ?_⟩
    rw [upd_same, take_snoc hki, List.map_append]; rfl
  rintro H4 ⟨s4, h4⟩
  rw [List.length_map, List.take_of_length_le (Nat.le_refl _)] at h4
  have s04 := s3.trans s4
  have h2 := s4 _ _ h2
  refine ⟨_, _, _, _, rfl, rfl, h2, h4, by rw [List.length_map, List.length_map]; omega, fun lt hlt => ?_⟩
  have s5 := s04.trans (same_upd hlt (.lst (ys.map (fun k => V.ref (tr1 k)) ++ zs.map fun k => V.ref (tr2 k))))
  obtain ⟨tr, etr⟩ : ∃ tr : Key → Addr, tr = fun k => match k with
    | .inr z => tr1 (.inr z)
    | .inl i => tr2 (.inl i) := ⟨_, rfl⟩
  have e1 : ∀ k, SrcK k → tr k = tr1 k := fun k h => by obtain ⟨z, rfl⟩ := h; rw [etr]
  have e2 : ∀ k, BoxK k → tr k = tr2 k := fun k h => by obtain ⟨z, rfl⟩ := h; rw [etr]
  have em : ys.map (fun k => V.ref (tr1 k)) ++ zs.map (fun k => V.ref (tr2 k)) = (ys ++ zs).map fun k => V.ref (tr k) := by
    rw [List.map_append]
    congr 1
    · refine List.map_congr_left fun k hk => ?_
      rw [e1 k (src_of M1 (hp.mem_iff.mp hk))]
    · refine List.map_congr_left fun k hk => ?_
      rw [e2 k (box_of M2 (hp2.mem_iff.mp hk))]
  refine hq D _ _ ⟨x, v, lt, ys ++ zs, tr, k.same s5, N, ⟨by rw [upd_same, em], fun kk hk => ?_, fun kk hz => ?_, by rw [List.length_append]; omega⟩, _, _, _, _, _, _, _, _, _, _, _, _, _, _, rfl⟩ post
  · rcases List.mem_append.mp hk with hk | hk
    · have hm := hp.mem_iff.mp hk
      obtain ⟨t', y', ev', ht, hx⟩ := htr1 kk hm
      rw [e1 kk (src_of M1 hm), show v.va kk = v.m1 kk from join_s (src_of M1 hm)]
      exact s5 _ _ hx
    · have hm := hp2.mem_iff.mp hk
      obtain ⟨t', y', ev', ht, hx⟩ := htr2 kk hm
      rw [e2 kk (box_of M2 hm), show v.va kk = v.m2 kk from join_b (box_of M2 hm)]
      exact s5 _ _ hx
  · refine List.mem_append.mpr ?_
    rcases src_or kk with h | h
    · refine .inl (hp.mem_iff.mpr (Classical.byContradiction fun n => hz ?_))
      rw [show v.va kk = v.m1 kk from join_s h, M1.df kk n]
      exact fun _ => rfl
    · refine .inr (hp2.mem_iff.mpr (Classical.byContradiction fun n => hz ?_))
      rw [show v.va kk = v.m2 kk from join_b h, M2.df kk n]
      exact fun _ => rfl
end
end
end Un
namespace Un
open PySem L2 TL
section
variable {P : Program} {w : World} {K : PySem.W.Frag} {mg : Str → Option Value} {base : Heap}
/-- the orders of what is not zero, ascending -/
structure OsOk (v : Dat) (os : List Int) : Prop where
  srt : os.Pairwise (· ≤ ·)
  l : os.length ≤ 12
  of : ∀ z ∈ os, ∃ k, ¬ Zp (v.va k) ∧ ((ordN (v.va k) : Nat) : Int) = z
  to : ∀ k, ¬ Zp (v.va k) → ((ordN (v.va k) : Nat) : Int) ∈ os
def PreD (T : TL') (C CF scr : Addr) (σ : L2.St) (H : Hp) : Prop := ∃ (x : Adr) (v : Dat) (lo : Addr) (os : List Int), K27 T C CF H x v ∧ N27 v ∧ H lo = some (.lst (os.map V.int)) ∧ OsOk v os ∧ ∃ v2 v8 v10 v11 v12 v13 v14 v15 v16 v17 v18 v19 v20 v21 : Option V, σ = [some (.ref scr), some (.ref x.b), v2, some (.ref x.l1), some (.ref x.l2), some (.ref x.t1), some (.ref x.a), some (.bl true), v8, some (.ref lo), v10, v11, v12, v13, v14, v15, v16, v17, v18, v19, v20, v21]
theorem ord_n {p : SerM.Po × SerM.Po} {z : V} (h : ¬ Zp p) (hz : OrdV p.1 z) : z = .int (ordN p : Nat) := ord_eq (u := p.1) (v := [1]) (p := p.1) (q := [1]) rfl rfl (fun _ => rfl) hz (ordN_v h)
section
variable {C CF CI g ff U M' NL f scr c0 P0 : Addr} {oc kV doc pm cdw ct : Value} {od an : Option Addr} {osl : Array (Option Value)} {fdF : FuncData} {T : TL'} {A : Around} {outer : List Env} {s : Shared} {H0 : Hp} {E : XK} {J : L2.St → Hp → Prop}
theorem segD (L : LawD P w K mg base C CF CI g ff U M' NL oc kV doc pm cdw ct od an osl fdF) (TB : LamX.TabB base mg c0 P0) (hT : T = [(P0, (lawX P w K mg base f (.ref c0) A outer s H0 E).env.qual ++ "<lambda>")]) (hr : Room 14 (lawX P w K mg base f (.ref c0) A outer s H0 E).A) (next : SegP (lawX P w K mg base f (.ref c0) A outer s H0 E) 9 (PreD T C CF scr) J) : SegP (lawX P w K mg base f (.ref c0) A outer s H0 E) 8 (PreC T C CF scr) J := by
  obtain ⟨t, ht, hq⟩ := next
  have C' := L.fc
  have cS := L.sc
  have Tx := L.T
  have msorted := L.srt
  obtain ⟨_, _, DP⟩ := L.pull
  obtain ⟨_, _, DA⟩ := L.any
  obtain ⟨_, _, DS⟩ := L.same
  obtain ⟨_, _, DNm⟩ := L.names
  obtain ⟨_, _, DMx⟩ := L.mixed
  obtain ⟨_, _, DQ⟩ := L.quot
  obtain ⟨_, _, DLf⟩ := L.leaf
  obtain ⟨_, _, DSo⟩ := L.so
  obtain ⟨_, _, DTr⟩ := L.trim
  obtain ⟨_, _, DOr⟩ := L.order
  obtain ⟨_, _, DOd⟩ := L.odd
  obtain ⟨_, _, DPl⟩ := L.plus
  obtain ⟨_, _, DCo⟩ := L.copies
  obtain ⟨_, _, MSs⟩ := L.srcs
  obtain ⟨_, _, MBs⟩ := L.boxs
  obtain ⟨_, _, MEq⟩ := L.eq
  obtain ⟨_, _, MEqS⟩ := L.eqS
  obtain ⟨_, _, MBool⟩ := L.bool
  obtain ⟨_, _, MBoolS⟩ := L.boolS
  obtain ⟨_, _, MRepr⟩ := L.repr
  obtain ⟨_, _, MF, MFB, ⟨_, kF1⟩, kF2⟩ := L.madeF
  obtain ⟨_, _, MSo, kSo⟩ := L.src
  obtain ⟨_, _, MBo, kBo⟩ := L.box
  obtain ⟨fI, fdI, d, dv, MS⟩ := L.made
  refine ⟨_, (pss_cons (ps_set (i := 9) scLaw.nd rfl (by first | exact Or.inl rfl | exact Or.inr rfl) (pe_callB cr_sorted (by rfl) msorted (by decide +kernel) (pa_cons (pe_lc (own := [("_law_top", 20)]) (g := (gName 20)) rfl scLaw.nd (pi_list (pv 8)) (blkOk_by (own := [("_law_top", 20)]) (N := ["_law_script", "_law_bag_here", "_law_turn", "_law_names_here", "_law_indexes", "_law_model", "_law_form", "_law_good", "_law_tops", "_law_orders", "_law_sources_z", "_law_odd_here", "_law_late", "_law_more", "_law_same_here", "_law_one", "_law_wrong", "_law_pairs", "_law_name_z", "_law_index_z", "_law_top", "_law_pair_here"]) (sc := defScope sLaw) (by decide +kernel)) (fun _ _ _ _ _ => (pg_name (i := 20) scLaw.nd rfl (Or.inl rfl) (Or.inr rfl))) (fun _ _ _ _ _ => (pts_one (pt_cmpR (op_neIK (K := K) rfl hr.units) (pe_call DTr.ok (hr.mono (by decide)) (by rfl) DTr.m DTr.kp DTr.b .nil pass0 (pa_cons (pv 20) pa_nil)) (pe_lst pa_nil) (nomark _)))) (fun _ _ _ _ _ => (pe_call DOr.ok (hr.mono (by decide)) (by rfl) DOr.m DOr.kp DOr.b .nil pass0 (pa_cons (pv 20) pa_nil)))) pa_nil)))
 ht), fun D σ H pre post => ?_⟩
  obtain ⟨x, v, lt, ks, tr, k, N, TA, v2, v9, v10, v11, v12, v13, v14, v15, v16, v17, v18, v19, v20, v21, rfl⟩ := pre
  have hsz : 1000000 < sizeLine := by decide
  have kl := TA.l
  refine ⟨_, rfl, lt, rfl, ⟨_, SqL.of TA.at_⟩, fun D1 hD => ?_⟩
  refine lc_it (walk_list (K := K) (xs := ks.map fun k => V.ref (tr k))) (fun i H2 => Same H H2 ∧ H2 D1 = some (.lst ((((ks.take i).filter fun k => nzB (v.va k)).map fun k => ((ordN (v.va k) : Nat) : Int)).map V.int))) ⟨same_upd hD _, upd_same⟩ (fun i H5 _ h => h.1.seq (SqL.of TA.at_)) ?_ ?_
  · rintro i y H2 H3 hi ⟨s2, h2⟩ ⟨rfl, hy⟩
    rw [List.getElem?_map] at hy
    obtain ⟨kk, hki, rfl⟩ := Option.map_eq_some_iff.mp hy
    have hmem := List.mem_of_getElem? hki
    have ht := s2 _ _ (TA.top kk hmem)
    have pl : (v.va kk).1.length ≤ 9 := (N.da kk).frac.pl
    refine ⟨rfl, _, rfl, tr kk, _, rfl, SqL.of ht, by omega, fun r H7 s7 hr' h7 => ?_⟩
    refine ⟨(by show 0 ≤ sizeLine; decide), fun e he => ?_⟩
    have s8 := s7.trans (same_upd he (.lst []))
    have h8 := same_upd he (.lst []) _ _ h7
    have g8 : upd H7 e (.lst []) e = some (.lst (iv [])) := upd_same
    generalize upd H7 e (.lst []) = H8 at s8 h8 g8 ⊢
    refine ⟨r, e, _, _, rfl, rfl, SqL.of h8, SqL.of g8, _, rfl, ?_⟩
    have e1 := filt_snoc' (b := fun k => nzB (v.va k)) hki
    have ht := s8 _ _ ht
    have s28 := s2.trans s8
    have h2 := s8 _ _ h2
    cases hb : nzB (v.va kk) with
    | true =>
      rw [show (!decide (SerM.trim (v.va kk).1 = [])) = true from hb]
      rw [hb, if_pos rfl] at e1
      refine iteT ⟨_, rfl, tr kk, _, rfl, SqL.of ht, by omega, fun z H9 s9 oz => ?_⟩
      have ez := ord_n (p := v.va kk) (nzB_iff.mp hb) oz
      subst ez
      refine ⟨_, s9 _ _ h2, ?_, same_app (s28.trans s9) hD, ?_⟩
      · have := List.length_filter_le (fun k => nzB (v.va k)) (ks.take i)
        rw [List.length_map, List.length_map]
        rw [List.length_take] at this
        omega
      · rw [upd_same, e1, List.map_append, List.map_append]; rfl
    | false =>
      rw [show (!decide (SerM.trim (v.va kk).1 = [])) = false from hb]
      rw [hb, if_neg (by decide), List.append_nil] at e1
      refine iteF ⟨s28, ?_⟩
      rw [e1]; exact h2
  rintro H2 ⟨s2, h2⟩
  rw [List.length_map, List.take_of_length_le (Nat.le_refl _)] at h2
  have fl := List.length_filter_le (fun k => nzB (v.va k)) ks
  refine ⟨D1, _, rfl, SqL.of h2, by rw [List.length_map]; omega, fun os lo hp hs hlo => ?_⟩
  have s3 := s2.trans (same_upd hlo (.lst (os.map V.int)))
  refine hq D _ _ ⟨x, v, lo, os, k.same s3, N, upd_same, ⟨hs, by rw [hp.length_eq, List.length_map]; omega, fun z hz => ?_, fun kk hz => ?_⟩, _, _, _, _, _, _, _, _, _, _, _, _, _, _, rfl⟩ post
  · obtain ⟨kk, hk, e⟩ := List.mem_map.mp (hp.mem_iff.mp hz)
    exact ⟨kk, nzB_iff.mp (List.mem_filter.mp hk).2, e⟩
  · exact hp.mem_iff.mpr (List.mem_map.mpr ⟨kk, List.mem_filter.mpr ⟨TA.cov kk hz, nzB_iff.mpr hz⟩, rfl⟩)
end
end
end Un
namespace Un
open PySem L2 TL
section
variable {P : Program} {w : World} {K : PySem.W.Frag} {mg : Str → Option Value} {base : Heap}
theorem atI_zero {y : V} {xs : List V} : atI (y :: xs) 0 = some y := atI_nat (j := 0) rfl
section
variable {C CF CI g ff U M' NL f scr c0 P0 : Addr} {oc kV doc pm cdw ct : Value} {od an : Option Addr} {osl : Array (Option Value)} {fdF : FuncData} {T : TL'} {A : Around} {outer : List Env} {s : Shared} {H0 : Hp} {E : XK} {J : L2.St → Hp → Prop}
theorem segE (L : LawD P w K mg base C CF CI g ff U M' NL oc kV doc pm cdw ct od an osl fdF) (TB : LamX.TabB base mg c0 P0) (hT : T = [(P0, (lawX P w K mg base f (.ref c0) A outer s H0 E).env.qual ++ "<lambda>")]) (hr : Room 14 (lawX P w K mg base f (.ref c0) A outer s H0 E).A) (next : SegP (lawX P w K mg base f (.ref c0) A outer s H0 E) 11 (PreB T C CF scr) J) : SegP (lawX P w K mg base f (.ref c0) A outer s H0 E) 9 (PreD T C CF scr) J := by
  obtain ⟨t, ht, hq⟩ := next
  have C' := L.fc
  have cS := L.sc
  have Tx := L.T
  have msorted := L.srt
  obtain ⟨_, _, DP⟩ := L.pull
  obtain ⟨_, _, DA⟩ := L.any
  obtain ⟨_, _, DS⟩ := L.same
  obtain ⟨_, _, DNm⟩ := L.names
  obtain ⟨_, _, DMx⟩ := L.mixed
  obtain ⟨_, _, DQ⟩ := L.quot
  obtain ⟨_, _, DLf⟩ := L.leaf
  obtain ⟨_, _, DSo⟩ := L.so
  obtain ⟨_, _, DTr⟩ := L.trim
  obtain ⟨_, _, DOr⟩ := L.order
  obtain ⟨_, _, DOd⟩ := L.odd
  obtain ⟨_, _, DPl⟩ := L.plus
  obtain ⟨_, _, DCo⟩ := L.copies
  obtain ⟨_, _, MSs⟩ := L.srcs
  obtain ⟨_, _, MBs⟩ := L.boxs
  obtain ⟨_, _, MEq⟩ := L.eq
  obtain ⟨_, _, MEqS⟩ := L.eqS
  obtain ⟨_, _, MBool⟩ := L.bool
  obtain ⟨_, _, MBoolS⟩ := L.boolS
  obtain ⟨_, _, MRepr⟩ := L.repr
  obtain ⟨_, _, MF, MFB, ⟨_, kF1⟩, kF2⟩ := L.madeF
  obtain ⟨_, _, MSo, kSo⟩ := L.src
  obtain ⟨_, _, MBo, kBo⟩ := L.box
  obtain ⟨fI, fdI, d, dv, MS⟩ := L.made
  refine ⟨_, (pss_cons (ps_if (pt_not (pt_val (pe_call DS.ok (hr.mono (by decide)) (by rfl) DS.m DS.kp DS.b .nil pass0 (pa_cons (pe_lst (pa_cons (pe_fld (pv 6) rfl) (pa_cons (pe_callTy (OwnX.call_boolO MBool (hr.mono (by decide))) (by rfl) Tx.bool (by decide +kernel) (pa_cons (pv 6) pa_nil)) pa_nil))) (pa_cons (pe_lst (pa_cons (pe_ifExp (pt_cmpR (op_neI hr.units) (pv 9) (pe_lst pa_nil) (nomark _)) (pe_ix ix_list (pv 9) pe_int (fun _ _ => rfl)) pe_non) (pa_cons (pe_cmpR (op_neI hr.units) (pv 9) (pe_lst pa_nil) (nomark _)) pa_nil))) pa_nil)))))
 (pss_one (ps_ret pe_bl))
 pss_nil)
 (pss_cons (ps_if (PW.pt (pw_or (pt_not (pt_truth (pv 7) (by intro _; rfl))) (pw_or1 (pt_not (pt_val (pe_call DSo.ok (hr.mono (by decide)) (by rfl) DSo.m DSo.kp DSo.b .nil pass0 (pa_cons (pv 6) (pa_cons (pv 3) (pa_cons (pv 4) (pa_cons (pv 5) pa_nil))))))))))
 (pss_one (ps_ret pe_bl))
 pss_nil)
 ht)), fun D σ H pre post => ?_⟩
  obtain ⟨x, v, lo, os, k, N, hlo, O, v2, v8, v10, v11, v12, v13, v14, v15, v16, v17, v18, v19, v20, v21, rfl⟩ := pre
  have hsz : 1000000 < sizeLine := by decide
  have ol := O.l
  obtain ⟨dx, e1, e2, o, q1, q2, R⟩ := id k.a
  have og := R.og
  refine ⟨_, rfl, x.a, CF, dx, _, _, rfl, R.ha, C'.cl, C'.o, rfl, ?_⟩
  refine ⟨_, rfl, x.a, dx, _, rfl, R.ha, x.a, v.U, v.va, rfl, k.a, fun bo hbo => ⟨bo, rfl, ?_⟩⟩
  refine ⟨(by show 2 ≤ sizeLine; decide), fun p1 hp1 => ?_⟩
  have s1 := same_upd hp1 (.lst [o, V.bl bo])
  have g1 : upd H p1 (.lst [o, V.bl bo]) p1 = some (.lst [o, V.bl bo]) := upd_same
  have k := k.same s1
  have hlo := s1 _ _ hlo
  generalize upd H p1 (.lst [o, V.bl bo]) = H1 at s1 g1 k hlo ⊢
  have sb : ∀ {kk : Key}, SrcK kk ∨ BoxK kk := fun {kk} => src_or kk
  have wl : ∀ z ∈ v.ws, z.length ≤ 1000 := fun z hz => by have := (N.nm z hz).l4; omega
  cases os with
  | nil =>
    have no : ∀ kk, Zp (v.va kk) := fun kk => Classical.byContradiction fun n => nomatch O.to kk n
    obtain rfl : o = .non := by
      rcases og with ⟨e, _⟩ | ⟨m, _, ⟨kk, _, hz, _⟩, _⟩
      · exact e
      · exact absurd (no kk) hz
    obtain rfl : bo = false := by
      cases bo with
      | false => rfl
      | true =>
        obtain ⟨kk, _, hz⟩ := hbo.mp rfl
        exact absurd (no kk) hz
    refine ⟨_, rfl, (by show 0 ≤ sizeLine; decide), fun e he => ?_⟩
    have s2 := same_upd he (.lst [])
    have ge : upd H1 e (.lst []) e = some (.lst (iv [])) := upd_same
    have k := k.same s2
    have g1 := s2 _ _ g1
    have hlo := s2 _ _ hlo
    generalize upd H1 e (.lst []) = H2 at s2 g1 ge k hlo ⊢
    refine ⟨lo, e, [], [], rfl, rfl, SqL.of hlo, SqL.of ge, _, rfl, iteF ?_⟩
    refine ⟨_, rfl, (by show 0 ≤ sizeLine; decide), fun e2 he2 => ?_⟩
    have s3 := same_upd he2 (.lst [])
    have ge2 : upd H2 e2 (.lst []) e2 = some (.lst (iv [])) := upd_same
    have k := k.same s3
    have g1 := s3 _ _ g1
    have hlo := s3 _ _ hlo
    generalize upd H2 e2 (.lst []) = H3 at s3 g1 ge2 k hlo ⊢
    refine ⟨lo, e2, [], [], rfl, rfl, SqL.of hlo, SqL.of ge2, ?_⟩
    rw [show (!decide (([] : List Int) = [])) = false from rfl]
    refine ⟨(by show 2 ≤ sizeLine; decide), fun p2 hp2 => ?_⟩
    have s4 := same_upd hp2 (.lst [V.non, V.bl false])
    have g2 : upd H3 p2 (.lst [V.non, V.bl false]) p2 = some (.lst [V.non, V.bl false]) := upd_same
    have k := k.same s4
    have g1 := s4 _ _ g1
    generalize upd H3 p2 (.lst [V.non, V.bl false]) = H4 at s4 g1 g2 k ⊢
    refine ⟨.ref p1, .ref p2, rfl, eqv_lst g1 g2 ⟨.leaf (by trivial) _, .leaf (by trivial) _, trivial⟩ (by show 2 ≤ 100000; decide), fun H5 s5 => ⟨_, rfl, iteF ?_⟩⟩
    have k := k.same s5
    refine ⟨_, rfl, true, rfl, ?_⟩
    refine iteF ?_
    refine ⟨_, rfl, _, rfl, _, rfl, _, rfl, x.a, x.l1, x.l2, x.t1, x.d1, x.d2, v.U, v.ws, v.is, v.k1, v.k2, v.m1, v.m2, rfl, k.a, SqL.of k.r.l1, SqL.of k.r.l2, wl, SqT.of k.r.t1, k.r.d1, k.r.d2, fun H6 s6 => ⟨_, rfl, iteF ?_⟩⟩
    exact hq D _ _ ⟨x, v, k.same s6, N, _, _, _, _, _, _, _, _, _, _, _, _, _, _, _, rfl⟩ post
  | cons z r =>
    obtain ⟨k0, hz0, ez0⟩ := O.of z List.mem_cons_self
    obtain rfl : o = .int z := by
      rcases og with ⟨_, h⟩ | ⟨m, rfl, ⟨kk, _, hz, em⟩, hle⟩
      · exact absurd (h k0 sb) hz0
      · have h1 := hle k0 sb hz0
        have h2 := O.to kk hz
        have h3 : z ≤ ((ordN (v.va kk) : Nat) : Int) := by
          rcases List.mem_cons.mp h2 with e | h2
          · omega
          · exact (List.pairwise_cons.mp O.srt).1 _ h2
        congr 1
        omega
    obtain rfl : bo = true := hbo.mpr ⟨k0, sb, hz0⟩
    refine ⟨_, rfl, (by show 0 ≤ sizeLine; decide), fun e he => ?_⟩
    have s2 := same_upd he (.lst [])
    have ge : upd H1 e (.lst []) e = some (.lst (iv [])) := upd_same
    have k := k.same s2
    have g1 := s2 _ _ g1
    have hlo := s2 _ _ hlo
    generalize upd H1 e (.lst []) = H2 at s2 g1 ge k hlo ⊢
    refine ⟨lo, e, z :: r, [], rfl, rfl, SqL.of hlo, SqL.of ge, _, rfl, iteT ?_⟩
    refine ⟨_, rfl, lo, _, 0, .int z, rfl, rfl, SqL.of hlo, atI_zero, ?_⟩
    refine ⟨_, rfl, (by show 0 ≤ sizeLine; decide), fun e2 he2 => ?_⟩
    have s3 := same_upd he2 (.lst [])
    have ge2 : upd H2 e2 (.lst []) e2 = some (.lst (iv [])) := upd_same
    have k := k.same s3
    have g1 := s3 _ _ g1
    have hlo := s3 _ _ hlo
    generalize upd H2 e2 (.lst []) = H3 at s3 g1 ge2 k hlo ⊢
    refine ⟨lo, e2, z :: r, [], rfl, rfl, SqL.of hlo, SqL.of ge2, ?_⟩
    rw [show (!decide (z :: r = [])) = true from rfl]
    refine ⟨(by show 2 ≤ sizeLine; decide), fun p2 hp2 => ?_⟩
    have s4 := same_upd hp2 (.lst [V.int z, V.bl true])
    have g2 : upd H3 p2 (.lst [V.int z, V.bl true]) p2 = some (.lst [V.int z, V.bl true]) := upd_same
    have k := k.same s4
    have g1 := s4 _ _ g1
    generalize upd H3 p2 (.lst [V.int z, V.bl true]) = H4 at s4 g1 g2 k ⊢
    refine ⟨.ref p1, .ref p2, rfl, eqv_lst g1 g2 ⟨.leaf (by trivial) _, .leaf (by trivial) _, trivial⟩ (by show 2 ≤ 100000; decide), fun H5 s5 => ⟨_, rfl, iteF ?_⟩⟩
    have k := k.same s5
    refine ⟨_, rfl, true, rfl, ?_⟩
    refine iteF ?_
    refine ⟨_, rfl, _, rfl, _, rfl, _, rfl, x.a, x.l1, x.l2, x.t1, x.d1, x.d2, v.U, v.ws, v.is, v.k1, v.k2, v.m1, v.m2, rfl, k.a, SqL.of k.r.l1, SqL.of k.r.l2, wl, SqT.of k.r.t1, k.r.d1, k.r.d2, fun H6 s6 => ⟨_, rfl, iteF ?_⟩⟩
    exact hq D _ _ ⟨x, v, k.same s6, N, _, _, _, _, _, _, _, _, _, _, _, _, _, _, _, rfl⟩ post
end
end
end Un
namespace L2
open PySem PySem.Spec PyProof.Rows
/-! ### a list of texts that is not empty -/
def rNeS (K : PySem.W.Frag) : V → V → Hp → VK → Prop := fun x y H Q => ∃ (a b : Addr) (zs : List Str), x = .ref a ∧ y = .ref b ∧ SqL K H a (zs.map V.str) ∧ SqL K H b [] ∧ (∀ z ∈ zs, PyData.strOk z = true) ∧ Q (.bl (!decide (zs = []))) H
theorem dp_strs {K : PySem.W.Frag} {H : Hp} : ∀ p : List Str, DpAll K H (p.map V.str) (p.map PyData.str)
  | [] => .nil
  | _ :: r => .cons (.str _) (dp_strs r)
theorem shp_strs {p : List Str} (h : ∀ z ∈ p, PyData.strOk z = true) : SeqAt.shaped (.list (p.map PyData.str)) = true := by
  have h1 : ∀ p : List Str, (∀ z ∈ p, PyData.strOk z = true) → PyData.canLayAll0 (p.map PyData.str) = true := fun p => by
    induction p with
    | nil => exact fun _ => rfl
    | cons x p ih =>
      intro h
      rw [List.map_cons, PyData.canLayAll0, ih fun z hz => h z (List.mem_cons_of_mem _ hz), PyData.canLay0, h x List.mem_cons_self]; rfl
  have h2 : ∀ p : List Str, PyData.depthAll (p.map PyData.str) ≤ 5 := fun p => by
    induction p with
    | nil => exact Nat.zero_le _
    | cons x p ih => rw [List.map_cons, PyData.depthAll]; exact Nat.max_le.mpr ⟨by rw [PyData.depth]; decide, ih⟩
  have h3 := h2 p
  unfold SeqAt.shaped
  rw [PyData.canLay0, h1 p h, PyData.depth, decide_eq_true (by omega)]
  rfl
theorem op_neS {X : Cx} (hu : X.A.units + 64 < cLine) : OpR X (compareOp .NotEq) (rNeS X.K) := by
  intro pins s σ H x y v u Q I rx ry h
  obtain ⟨a, b, p, rfl, rfl, ha, hb, ok, h⟩ := h
  refine op_neD hu pins s σ H _ _ v u Q I rx ry ⟨_, _, .lst ha (dp_strs p), .lst hb .nil, shp_strs ok, shp_strs (p := []) (fun z hz => nomatch hz), ?_⟩
  have e : PyData.eqv (.list (p.map PyData.str)) (.list []) = decide (p = []) := by
    cases p with
    | nil => rfl
    | cons z r => rfl
  rw [e]; exact h
end L2
namespace Un
open PySem L2 TL
section
variable {P : Program} {w : World} {K : PySem.W.Frag} {mg : Str → Option Value} {base : Heap}
theorem src_filter {S : Key → Prop} {H : Hp} {d : Addr} {U U' : List Key} {k1 : List (Key × V)} {m1 val : Vf} {ys : List Key} {y1 : List Str} (M1 : MTab SrcOk H d U k1 m1) (hp : ys.Perm (k1.map (·.1))) (hs : SortK ys) (SL : SrcL U' val y1) (hv : ∀ z, val (Sum.inr z) = m1 (Sum.inr z)) : (ys.filter fun k => nzB (m1 k)).map L2.kV = y1.map V.str := by
  have hin : ∀ k, k ∈ ys ↔ KeysIn k1 k := fun k => hp.mem_iff
  rcases hs with ⟨zs', e, hsrt⟩ | ⟨zs', e, hsrt⟩
  · have hf : ys.filter (fun k => nzB (m1 k)) = (zs'.filter fun z => nzB (m1 (Sum.inr z))).map Sum.inr := by rw [e, List.filter_map]; rfl
    rw [hf, kv_s]
    congr 1
    have ndz : zs'.Nodup := by
      have := hp.nodup_iff.mpr M1.nd
      rw [e] at this
      exact (List.pairwise_map.mp this).imp fun h e => h (congrArg _ e)
    refine pw_eq_s (List.Pairwise.sublist List.filter_sublist (sorted_pw hsrt)) (sorted_pw SL.srt) (perm_mem (List.Nodup.sublist List.filter_sublist ndz) SL.nd fun z => ?_)
    rw [List.mem_filter, SL.iff z, nzB_iff, hv]
    refine ⟨fun h => h.2, fun h => ⟨?_, h⟩⟩
    have : KeysIn k1 (Sum.inr z) := Classical.byContradiction fun n => h (by rw [M1.df _ n]; exact fun _ => rfl)
    have := (hin _).mpr this
    rw [e] at this
    obtain ⟨z', hz', ez⟩ := List.mem_map.mp this
    cases ez; exact hz'
  · have e0 : ys = [] := by
      cases ys with
      | nil => rfl
      | cons q r =>
        have h1 := (hin q).mp List.mem_cons_self
        obtain ⟨p, hpp, ep⟩ := List.mem_map.mp h1
        obtain ⟨z, ez, _⟩ := M1.ok p hpp
        cases zs' with
        | nil => cases e
        | cons i r' =>
          injection e with e1 e2
          rw [e1, ez] at ep
          cases ep
    have k0 : k1 = [] := by
      have := hp.length_eq
      rw [e0, List.length_map] at this
      exact List.eq_nil_of_length_eq_zero this.symm
    have : y1 = [] := List.eq_nil_iff_forall_not_mem.mpr fun z hz => (SL.iff z).mp hz (by
      rw [hv, M1.df _ (by rw [k0]; exact fun h => nomatch h)]; exact fun _ => rfl)
    rw [e0, this]; rfl
section
variable {C CF CI g ff U M' NL f scr c0 P0 : Addr} {oc kV doc pm cdw ct : Value} {od an : Option Addr} {osl : Array (Option Value)} {fdF : FuncData} {T : TL'} {A : Around} {outer : List Env} {s : Shared} {H0 : Hp} {E : XK} {J : L2.St → Hp → Prop}
theorem segF (L : LawD P w K mg base C CF CI g ff U M' NL oc kV doc pm cdw ct od an osl fdF) (TB : LamX.TabB base mg c0 P0) (hT : T = [(P0, (lawX P w K mg base f (.ref c0) A outer s H0 E).env.qual ++ "<lambda>")]) (hr : Room 14 (lawX P w K mg base f (.ref c0) A outer s H0 E).A) (next : SegP (lawX P w K mg base f (.ref c0) A outer s H0 E) 13 (PreB T C CF scr) J) : SegP (lawX P w K mg base f (.ref c0) A outer s H0 E) 11 (PreB T C CF scr) J := by
  obtain ⟨t, ht, hq⟩ := next
  have C' := L.fc
  have cS := L.sc
  have Tx := L.T
  have msorted := L.srt
  obtain ⟨_, _, DP⟩ := L.pull
  obtain ⟨_, _, DA⟩ := L.any
  obtain ⟨_, _, DS⟩ := L.same
  obtain ⟨_, _, DNm⟩ := L.names
  obtain ⟨_, _, DMx⟩ := L.mixed
  obtain ⟨_, _, DQ⟩ := L.quot
  obtain ⟨_, _, DLf⟩ := L.leaf
  obtain ⟨_, _, DSo⟩ := L.so
  obtain ⟨_, _, DTr⟩ := L.trim
  obtain ⟨_, _, DOr⟩ := L.order
  obtain ⟨_, _, DOd⟩ := L.odd
  obtain ⟨_, _, DPl⟩ := L.plus
  obtain ⟨_, _, DCo⟩ := L.copies
  obtain ⟨_, _, MSs⟩ := L.srcs
  obtain ⟨_, _, MBs⟩ := L.boxs
  obtain ⟨_, _, MEq⟩ := L.eq
  obtain ⟨_, _, MEqS⟩ := L.eqS
  obtain ⟨_, _, MBool⟩ := L.bool
  obtain ⟨_, _, MBoolS⟩ := L.boolS
  obtain ⟨_, _, MRepr⟩ := L.repr
  obtain ⟨_, _, MF, MFB, ⟨_, kF1⟩, kF2⟩ := L.madeF
  obtain ⟨_, _, MSo, kSo⟩ := L.src
  obtain ⟨_, _, MBo, kBo⟩ := L.box
  obtain ⟨fI, fdI, d, dv, MS⟩ := L.made
  refine ⟨_, (pss_cons (ps_setLc (i := 10) (own := [("_law_name_z", 18)]) (g := (gName 18)) rfl scLaw.nd rfl rfl (sw_true rfl rfl rfl (by decide +kernel)) (pi_list (pe_callB (call_sortedK rfl) (by rfl) msorted (by decide +kernel) (pa_cons (pe_ix ix_tup (pv 5) pe_int (fun _ _ => rfl)) pa_nil))) (blkOk_by (own := [("_law_name_z", 18)]) (N := ["_law_script", "_law_bag_here", "_law_turn", "_law_names_here", "_law_indexes", "_law_model", "_law_form", "_law_good", "_law_tops", "_law_orders", "_law_sources_z", "_law_odd_here", "_law_late", "_law_more", "_law_same_here", "_law_one", "_law_wrong", "_law_pairs", "_law_name_z", "_law_index_z", "_law_top", "_law_pair_here"]) (sc := defScope sLaw) (by decide +kernel)) (fun _ _ _ _ _ => (pg_name (i := 18) scLaw.nd rfl (Or.inl rfl) (Or.inr rfl))) (fun _ _ _ _ _ => (pts_one (pt_cmpR (op_neIK (K := K) rfl hr.units) (pe_call DTr.ok (hr.mono (by decide)) (by rfl) DTr.m DTr.kp DTr.b .nil pass0 (pa_cons (pe_ix (ixTK (K := K) rfl) (pe_dget (hu_of hr) (pe_ix (ixTK (K := K) rfl) (pv 5) pe_int (fun _ _ => rfl)) (pv 18) (fun _ _ => rfl)) pe_int (fun _ _ => rfl)) pa_nil)) (pe_lst pa_nil) (nomark _)))) (fun _ _ _ _ _ => (pv 18)))
 (pss_cons (ps_if (pt_not (pt_val (pe_call DS.ok (hr.mono (by decide)) (by rfl) DS.m DS.kp DS.b .nil pass0 (pa_cons (pe_callB (OwnX.call_reprO MRepr (hr.mono (by decide))) (by rfl) L.rep (by decide +kernel) (pa_cons (pv 6) pa_nil)) (pa_cons (pe_op op_add_str (pe_op op_add_str (pe_op op_add_str (pe_op op_add_str pe_str (pe_ifExp (pt_cmpR (op_neS hr.units) (pv 10) (pe_lst pa_nil) (nomark _)) (pe_join pe_str (pv 10)) pe_str)) pe_str) (pe_callTy call_str_int (by rfl) L.str (by decide +kernel) (pa_cons (pe_callB call_len_seq (by rfl) Tx.len PySem.boot_len (pa_cons (pe_meth0 (pv 6) C'.cl MBs.mt MBs.ok (hr.mono (by decide)) MBs.b .nil pass0) pa_nil)) pa_nil))) pe_str) pa_nil)))))
 (pss_one (ps_ret pe_bl))
 pss_nil)
 ht)), fun D σ H pre post => ?_⟩
  obtain ⟨x, v, k, N, v2, v8, v9, v10, v11, v12, v13, v14, v15, v16, v17, v18, v19, v20, v21, rfl⟩ := pre
  have hsz : 1000000 < sizeLine := by decide
  have M1 := k.r.d1
  have t1 := k.r.t1
  have l1 := M1.l6 N
  refine ⟨_, rfl, x.t1, _, _, _, rfl, rfl, SqT.of t1, rfl, x.d1, v.k1, rfl, .inl M1.at_, onek_s M1.ok, by omega, fun ys l hp hs hl => ?_⟩
  have s1 := same_upd hl (.lst (ys.map L2.kV))
  have gl : upd H l (.lst (ys.map L2.kV)) l = some (.lst (ys.map L2.kV)) := upd_same
  generalize upd H l (.lst (ys.map L2.kV)) = H1 at s1 gl ⊢
  have yl : ys.length ≤ 6 := by
    have := hp.length_eq
    rw [List.length_map] at this
    omega
  refine ⟨l, rfl, ⟨_, SqL.of gl⟩, fun D1 hD => ?_⟩
  refine lc_it (walk_list (K := K) (xs := ys.map L2.kV)) (fun i H2 => Same H1 H2 ∧ H2 D1 = some (.lst (((ys.take i).filter fun k => nzB (v.m1 k)).map L2.kV))) ⟨same_upd hD _, upd_same⟩ (fun i H5 _ h => h.1.seq (SqL.of gl)) ?_ ?_
  · rintro i y H2 H3 hi ⟨s2, h2⟩ ⟨rfl, hy⟩
    rw [List.getElem?_map] at hy
    obtain ⟨kk, hki, rfl⟩ := Option.map_eq_some_iff.mp hy
    have hmem : kk ∈ v.k1.map (·.1) := hp.mem_iff.mp (List.mem_of_getElem? hki)
    have s12 := s1.trans s2
    obtain ⟨t', ev', ⟨tx, ty, ht, hx, hy⟩⟩ := val_of_key (M1.same s12) hmem
    have gk : DGet H3 x.d1 (L2.kV kk) (some (.ref t')) := by rw [← ev']; exact DGet.k (s12 _ _ M1.at_)
    have pl : (v.m1 kk).1.length ≤ 9 := (N.dm1 kk).frac.pl
    refine ⟨rfl, _, rfl, x.t1, _, _, _, rfl, rfl, SqT.of (s12 _ _ t1), rfl, _, rfl, x.d1, _, rfl, gk, t', _, _, _, rfl, rfl, SqT.of ht, rfl, tx, _, rfl, SqL.of hx, by omega, fun r H7 s7 hr' h7 => ?_⟩
    refine ⟨(by show 0 ≤ sizeLine; decide), fun e he => ?_⟩
    have s8 := s7.trans (same_upd he (.lst []))
    have h8 := same_upd he (.lst []) _ _ h7
    have g8 : upd H7 e (.lst []) e = some (.lst (iv [])) := upd_same
    generalize upd H7 e (.lst []) = H8 at s8 h8 g8 ⊢
    refine ⟨r, e, _, _, rfl, rfl, SqL.of h8, SqL.of g8, _, rfl, ?_⟩
    have e1 := filt_snoc' (b := fun k => nzB (v.m1 k)) hki
    have h2 := s8 _ _ h2
    have s28 := s2.trans s8
    cases hb : nzB (v.m1 kk) with
    | true =>
      rw [show (!decide (SerM.trim (v.m1 kk).1 = [])) = true from hb]
      rw [hb, if_pos rfl] at e1
      refine iteT ⟨_, rfl, _, h2, ?_, same_app s28 hD, ?_⟩
      · have := List.length_filter_le (fun k => nzB (v.m1 k)) (ys.take i)
        rw [List.length_map]
        rw [List.length_take] at this
        omega
      · rw [upd_same, e1, List.map_append]; rfl
    | false =>
      rw [show (!decide (SerM.trim (v.m1 kk).1 = [])) = false from hb]
      rw [hb, if_neg (by decide), List.append_nil] at e1
      refine iteF ⟨s28, ?_⟩
      rw [e1]; exact h2
  rintro H2 ⟨s2, h2⟩
  rw [List.length_map, List.take_of_length_le (Nat.le_refl _)] at h2
  have s02 := s1.trans s2
  have k := k.same s02
  -- repr
  obtain ⟨dx, e1, e2, o, q1, q2, R⟩ := id k.a
  refine ⟨_, rfl, x.a, dx, _, rfl, R.ha, x.a, v.U, v.va, rfl, k.a, fun zs n H3 s3 SL hn => ⟨_, rfl, ?_⟩⟩
  have h2 := s3 _ _ h2
  rw [src_filter (S := SrcOk) M1 hp hs SL fun z => rfl] at h2
  have k := k.same s3
  have zl := SL.l
  refine ⟨_, rfl, (by show 0 ≤ sizeLine; decide), fun e he => ?_⟩
  have s4 := same_upd he (.lst [])
  have ge : upd H3 e (.lst []) e = some (.lst []) := upd_same
  have h2 := s4 _ _ h2
  have k := k.same s4
  generalize upd H3 e (.lst []) = H4 at s4 ge h2 k ⊢
  refine ⟨D1, e, zs, rfl, rfl, SqL.of h2, SqL.of ge, fun z hz => (SL.nm z hz).ok, _, rfl, ?_⟩
  have L5 : ∀ {n : Nat}, n ≤ 1000 → n ≤ sizeLine := fun h => Nat.le_trans h (by decide)
  have c1 : (("Form(" : String) : Str).length = 5 := by decide +kernel
  have c2 : ((", " : String) : Str).length = 2 := by decide +kernel
  have c3 : ((" boxes)" : String) : Str).length = 7 := by decide +kernel
  have c0 : (("-" : String) : Str).length = 1 := by decide +kernel
  by_cases ez : zs = []
  · rw [decide_eq_true ez]
    refine iteF ?_
    refine ⟨_, _, rfl, rfl, L5 (by rw [c1]; omega), _, _, rfl, rfl, L5 (by rw [Str.length_append, c1, c2]; omega), ?_⟩
    obtain ⟨dx, e1, e2, o, q1, q2, R⟩ := id k.a
    refine ⟨_, rfl, x.a, dx, _, rfl, R.ha, rfl, x.a, v.U, v.va, rfl, k.a, fun lb ib H5 s5 hlb h5 BL => ?_⟩
    have bl := BL.l
    have nb := hn ib BL
    have k := k.same s5
    refine ⟨lb, _, rfl, .inl (SqL.of h5), ?_⟩
    rw [List.length_map, nb]
    have hk : (((toString ((n : Nat) : Int)) : String) : Str).length ≤ 3 := len_small ⟨n, by omega⟩
    refine ⟨_, rfl, Nat.lt_of_le_of_lt (Nat.log2_le_self _) (by omega), ?_⟩
    refine ⟨_, _, rfl, rfl, L5 (by rw [Str.length_append, Str.length_append, c1, c2]; omega), _, _, rfl, rfl, L5 (by rw [Str.length_append, Str.length_append, Str.length_append, c1, c2, c3]; omega), ?_⟩
    refine ⟨_, _, rfl, ?_, fun H6 s6 => ⟨_, rfl, iteF ?_⟩⟩
    · unfold reprF
      rw [if_pos ez]
      exact Eqv.leaf (by trivial) _
    exact hq D _ _ ⟨x, v, k.same s6, N, _, _, _, _, _, _, _, _, _, _, _, _, _, _, _, rfl⟩ post
  · rw [decide_eq_false ez]
    refine iteT ?_
    have hj := join_len (l := zs) (n := 40) ⟨zl, fun z hz => Nat.le_trans (SL.nm z hz).l4 (by decide)⟩
    refine ⟨⟨_, rfl⟩, _, rfl, " ", D1, zs, rfl, rfl, .inl (SqL.of h2), join_okN zl SL.nm, ?_⟩
    refine ⟨_, _, rfl, rfl, L5 (by rw [c1]; omega), _, _, rfl, rfl, L5 (by rw [Str.length_append, c1, c2]; omega), ?_⟩
    obtain ⟨dx, e1, e2, o, q1, q2, R⟩ := id k.a
    refine ⟨_, rfl, x.a, dx, _, rfl, R.ha, rfl, x.a, v.U, v.va, rfl, k.a, fun lb ib H5 s5 hlb h5 BL => ?_⟩
    have bl := BL.l
    have nb := hn ib BL
    have k := k.same s5
    refine ⟨lb, _, rfl, .inl (SqL.of h5), ?_⟩
    rw [List.length_map, nb]
    have hk : (((toString ((n : Nat) : Int)) : String) : Str).length ≤ 3 := len_small ⟨n, by omega⟩
    refine ⟨_, rfl, Nat.lt_of_le_of_lt (Nat.log2_le_self _) (by omega), ?_⟩
    refine ⟨_, _, rfl, rfl, L5 (by rw [Str.length_append, Str.length_append, c1, c2]; omega), _, _, rfl, rfl, L5 (by rw [Str.length_append, Str.length_append, Str.length_append, c1, c2, c3]; omega), ?_⟩
    refine ⟨_, _, rfl, ?_, fun H6 s6 => ⟨_, rfl, iteF ?_⟩⟩
    · unfold reprF
      rw [if_neg ez]
      exact Eqv.leaf (by trivial) _
    exact hq D _ _ ⟨x, v, k.same s6, N, _, _, _, _, _, _, _, _, _, _, _, _, _, _, _, rfl⟩ post
end
end
end Un
namespace Un
open PySem L2 TL
section
variable {P : Program} {w : World} {K : PySem.W.Frag} {mg : Str → Option Value} {base : Heap}
theorem va_src0 {H : Hp} {x : Adr} {v : Dat} (R : R27 H x v) {z : Str} (h : ¬ IsNm z) : v.va (Sum.inr z) = v0 := R.d1.df _ fun hk => by
  obtain ⟨p, hp, e⟩ := List.mem_map.mp hk
  obtain ⟨z', ez, nz⟩ := R.d1.ok p hp
  rw [e] at ez
  cases ez
  exact h nz
theorem va_box0 {H : Hp} {x : Adr} {v : Dat} (R : R27 H x v) (N : N27 v) {i : Int} (h : i ∉ v.is) : v.va (Sum.inl i) = v0 := R.d2.df _ fun hk => by
  obtain ⟨p, hp, e⟩ := List.mem_map.mp hk
  have hu := R.d2.sub p hp
  rw [e, N.u] at hu
  rcases List.mem_append.mp hu with hu | hu
  · obtain ⟨z, _, ez⟩ := List.mem_map.mp hu
    cases ez
  · obtain ⟨z, hz, ez⟩ := List.mem_map.mp hu
    cases ez
    exact h hz
theorem tl_cat (a b : Str) : tl (a ++ b) = tl a ++ tl b := by
  show (a.cps ++ b.cps).toList = _
  rw [Array.toList_append]
theorem no_slash {w : Str} : ¬ IsNm (w ++ "/" ++ w) := fun h => by
  have := h.low 47 (by
    rw [tl_cat, tl_cat]
    exact List.mem_append_left _ (List.mem_append_right _ (by decide +kernel)))
  exact absurd this (by decide +kernel)
theorem no_e0 : ¬ IsNm ("" : Str) := fun h => absurd h.l1 (by decide +kernel)
theorem no_e1 : ¬ IsNm ("A" : Str) := fun h => absurd (h.low 65 (by decide +kernel)) (by decide +kernel)
theorem no_e5 : ¬ IsNm ("abcde" : Str) := fun h => absurd h.l4 (by decide +kernel)
/-- no name, as the drawn value -/
def OddS (K : PySem.W.Frag) (H : Hp) (y : V) : Prop := (∃ z : Str, y = .str z ∧ z.length ≤ 1000 ∧ ¬ IsNm z) ∨ ∃ t : String, TyX K H y (.type t) ∧ kitB t "str" = some false
theorem OddB.s {b : Addr} {H : Hp} {y : V} (h : OddB b H y) : OddS K H y := by
  cases h with
  | non => exact .inr ⟨"NoneType", .base .non, by decide +kernel⟩
  | bl => exact .inr ⟨"bool", .base (.bl _), by decide +kernel⟩
  | e0 => exact .inl ⟨_, rfl, by decide +kernel, no_e0⟩
  | e1 => exact .inl ⟨_, rfl, by decide +kernel, no_e1⟩
  | e5 => exact .inl ⟨_, rfl, by decide +kernel, no_e5⟩
  | int => exact .inr ⟨"int", .base (.int _), by decide +kernel⟩
  | t2 h => exact .inr ⟨"tuple", .base (.tup h), by decide +kernel⟩
  | l1 n h => exact .inr ⟨"list", .base (.lst h), by decide +kernel⟩
  | t0 h => exact .inr ⟨"tuple", .base (.tup h), by decide +kernel⟩
def PreG (T : TL') (C CF scr : Addr) (K : PySem.W.Frag) (σ : L2.St) (H : Hp) : Prop := ∃ (x : Adr) (v : Dat) (y : V), K27 T C CF H x v ∧ N27 v ∧ OddS K H y ∧ ∃ v2 v8 v9 v10 v12 v13 v14 v15 v16 v17 v18 v19 v20 v21 : Option V, σ = [some (.ref scr), some (.ref x.b), v2, some (.ref x.l1), some (.ref x.l2), some (.ref x.t1), some (.ref x.a), some (.bl true), v8, v9, v10, some y, v12, v13, v14, v15, v16, v17, v18, v19, v20, v21]
theorem three {v : Dat} (N : N27 v) : ∃ w0 w1 w2, v.ws = [w0, w1, w2] ∧ IsNm w0 ∧ IsNm w1 ∧ IsNm w2 := by
  have l := N.wl
  have nm := N.nm
  match h : v.ws, l with
  | [a, b, c], _ =>
    rw [h] at nm
    exact ⟨a, b, c, rfl, nm a (by simp), nm b (by simp), nm c (by simp)⟩
theorem threeI {v : Dat} (N : N27 v) : ∃ w0 w1 w2, v.is = [w0, w1, w2] := by
  have l := N.il
  match h : v.is, l with
  | [a, b, c], _ => exact ⟨a, b, c, rfl⟩
section
variable {C CF CI g ff U M' NL f scr c0 P0 : Addr} {oc kV doc pm cdw ct : Value} {od an : Option Addr} {osl : Array (Option Value)} {fdF : FuncData} {T : TL'} {A : Around} {outer : List Env} {s : Shared} {H0 : Hp} {E : XK} {J : L2.St → Hp → Prop}
theorem segG (L : LawD P w K mg base C CF CI g ff U M' NL oc kV doc pm cdw ct od an osl fdF) (TB : LamX.TabB base mg c0 P0) (hT : T = [(P0, (lawX P w K mg base f (.ref c0) A outer s H0 E).env.qual ++ "<lambda>")]) (hr : Room 14 (lawX P w K mg base f (.ref c0) A outer s H0 E).A) (next : SegP (lawX P w K mg base f (.ref c0) A outer s H0 E) 14 (PreG T C CF scr K) J) : SegP (lawX P w K mg base f (.ref c0) A outer s H0 E) 13 (PreB T C CF scr) J := by
  obtain ⟨t, ht, hq⟩ := next
  have C' := L.fc
  have cS := L.sc
  have Tx := L.T
  have msorted := L.srt
  obtain ⟨_, _, DP⟩ := L.pull
  obtain ⟨_, _, DA⟩ := L.any
  obtain ⟨_, _, DS⟩ := L.same
  obtain ⟨_, _, DNm⟩ := L.names
  obtain ⟨_, _, DMx⟩ := L.mixed
  obtain ⟨_, _, DQ⟩ := L.quot
  obtain ⟨_, _, DLf⟩ := L.leaf
  obtain ⟨_, _, DSo⟩ := L.so
  obtain ⟨_, _, DTr⟩ := L.trim
  obtain ⟨_, _, DOr⟩ := L.order
  obtain ⟨_, _, DOd⟩ := L.odd
  obtain ⟨_, _, DPl⟩ := L.plus
  obtain ⟨_, _, DCo⟩ := L.copies
  obtain ⟨_, _, MSs⟩ := L.srcs
  obtain ⟨_, _, MBs⟩ := L.boxs
  obtain ⟨_, _, MEq⟩ := L.eq
  obtain ⟨_, _, MEqS⟩ := L.eqS
  obtain ⟨_, _, MBool⟩ := L.bool
  obtain ⟨_, _, MBoolS⟩ := L.boolS
  obtain ⟨_, _, MRepr⟩ := L.repr
  obtain ⟨_, _, MF, MFB, ⟨_, kF1⟩, kF2⟩ := L.madeF
  obtain ⟨_, _, MSo, kSo⟩ := L.src
  obtain ⟨_, _, MBo, kBo⟩ := L.box
  obtain ⟨fI, fdI, d, dv, MS⟩ := L.made
  refine ⟨_, (pss_cons (ps_set (i := 11) scLaw.nd rfl (by first | exact Or.inl rfl | exact Or.inr rfl) (pe_call DOd.ok (hr.mono (by decide)) (by rfl) DOd.m DOd.kp DOd.b .nil pass0 (pa_cons (pv 1) (pa_cons (pe_lst (pa_cons (pe_op op_add_str (pe_op op_add_str (pe_ix ix_list (pv 3) pe_int (fun _ _ => rfl)) pe_str) (pe_ix ix_list (pv 3) pe_int (fun _ _ => rfl))) (pa_cons pe_int (pa_cons (pe_lst (pa_cons pe_str pa_nil)) pa_nil)))) pa_nil))))
 ht), fun D σ H pre post => ?_⟩
  obtain ⟨x, v, k, N, v2, v8, v9, v10, v11, v12, v13, v14, v15, v16, v17, v18, v19, v20, v21, rfl⟩ := pre
  have hsz : 1000000 < sizeLine := by decide
  obtain ⟨w0, w1, w2, ew, nm0, nm1, nm2⟩ := three N
  have h1 := k.r.l1
  rw [ew] at h1
  have wl0 := nm0.l4
  have c1 : (("/" : String) : Str).length = 1 := by decide +kernel
  have L5 : ∀ {n : Nat}, n ≤ 1000 → n ≤ sizeLine := fun h => Nat.le_trans h (by decide)
  refine ⟨_, rfl, _, rfl, x.l1, _, 0, .str w0, rfl, rfl, SqL.of h1, atI_zero, _, _, rfl, rfl, L5 (by rw [c1]; omega), _, rfl, x.l1, _, 0, .str w0, rfl, rfl, SqL.of h1, atI_zero, _, _, rfl, rfl, L5 (by rw [Str.length_append, c1]; omega), ?_⟩
  refine ⟨(by show 1 ≤ sizeLine; decide), fun la hla => ?_⟩
  have s1 := same_upd hla (.lst [V.str "a"])
  have g1 : upd H la (.lst [V.str "a"]) la = some (.lst [V.str "a"]) := upd_same
  have k := k.same s1
  generalize upd H la (.lst [V.str "a"]) = H1 at s1 g1 k ⊢
  obtain ⟨z0, ez0⟩ : ∃ z0, z0 = w0 ++ "/" ++ w0 := ⟨_, rfl⟩
  have nz0 : ¬ IsNm z0 := by rw [ez0]; exact no_slash
  have lz0 : z0.length ≤ 9 := by rw [ez0, Str.length_append, Str.length_append, c1]; omega
  rw [← ez0]
  refine ⟨(by show 3 ≤ sizeLine; decide), fun lm hlm => ?_⟩
  have s2 := same_upd hlm (.lst [V.str z0, V.int 4, V.ref la])
  have g2 : upd H1 lm (.lst [V.str z0, V.int 4, V.ref la]) lm = some (.lst [V.str z0, V.int 4, V.ref la]) := upd_same
  have nlm : lm ≠ x.b := k.bag.fresh hlm
  have nla : la ≠ x.b := fun e => by
    obtain ⟨o, ho⟩ := k.bag.there
    have : ∃ p, H1 x.b = some p := ⟨o, ho⟩
    subst e
    obtain ⟨ns, p, r, ss, kk, B⟩ := k.bag
    have := B.lb.symm.trans g1
    cases this
  have g1 := s2 _ _ g1
  have k := k.same s2
  generalize upd H1 lm (.lst [V.str z0, V.int 4, V.ref la]) = H2 at s2 g1 g2 k ⊢
  refine ⟨x.b, x.c, lm, _, rfl, k.bag, nlm, g2, (by show 3 ≤ 100; decide), fun y H3 hy B3 k3 => ?_⟩
  refine hq D _ _ ⟨x, v, y, k.kp B3 k3, N, ?_, _, _, _, _, _, _, _, _, _, _, _, _, _, _, rfl⟩ post
  rcases hy with hy | hy
  · exact hy.s
  · simp only [List.mem_cons, List.not_mem_nil, or_false] at hy
    rcases hy with rfl | rfl | rfl
    · exact .inl ⟨_, rfl, by omega, nz0⟩
    · exact .inr ⟨"int", .base (.int _), by decide +kernel⟩
    · exact .inr ⟨"list", .base (.lst (k3 _ _ g1 nla)), by decide +kernel⟩
end
end
end Un
namespace Un
open PySem L2 TL
section
variable {P : Program} {w : World} {K : PySem.W.Frag} {mg : Str → Option Value} {base : Heap}
theorem bool0 {H : Hp} {C b : Addr} {R : V → Hp → Prop} (h : ValU H C b [] [1]) (q : R (.bl false) H) : ∃ a dx fs, [V.ref b] = [.ref a] ∧ H a = some (.ins C dx fs) ∧ spBoolM C [.ref a] H (fun v H' => ∃ bo, v = .bl bo ∧ R v H') E0 := by
  have S := h.top1 (fun e => absurd rfl e)
  obtain ⟨dx, y, z, o, h1, _⟩ := id S
  exact ⟨b, dx, _, rfl, h1, b, [], [1], rfl, S, fun e => absurd rfl e, false, rfl, q⟩
theorem src_odd {H : Hp} {x : Adr} {v : Dat} {y : V} {T : TL'} {C CF : Addr} {Q : VK} (k : K27 T C CF H x v) (h : OddS K H y) (q : ∀ b H', Same H H' → ValU H' C b [] [1] → Q (.ref b) H') : spSrcU K C CF [.ref x.a, y] H Q E0 := by
  rcases h with ⟨z, rfl, zl, nz⟩ | ⟨t, ty, kb⟩
  · refine .inl ⟨x.a, z, v.U, v.va, rfl, zl, k.a, fun b H' s' V' => q b H' s' ?_⟩
    rw [va_src0 k.r nz] at V'
    exact V'
  · exact .inr ⟨x.a, y, t, rfl, ty, kb, q⟩
theorem box_odd {H : Hp} {x : Adr} {v : Dat} {y : V} {T : TL'} {C CF : Addr} {Q : VK} (k : K27 T C CF H x v) (N : N27 v) (h : y ∈ [V.non, V.str "a", V.int 4, V.int (-1)]) (q : ∀ b H', Same H H' → ValU H' C b [] [1] → Q (.ref b) H') : spBoxU K C CF [.ref x.a, y] H Q E0 := by
  simp only [List.mem_cons, List.not_mem_nil, or_false] at h
  rcases h with rfl | rfl | rfl | rfl
  · exact .inr ⟨x.a, _, "NoneType", false, false, rfl, .base .non, by decide +kernel, by decide +kernel, rfl, q⟩
  · exact .inr ⟨x.a, _, "str", false, false, rfl, .base (.str _), by decide +kernel, by decide +kernel, rfl, q⟩
  · refine .inl ⟨x.a, 4, v.U, v.va, rfl, k.a, fun b H' s' V' => q b H' s' ?_⟩
    rw [va_box0 k.r N fun h => N.i4 4 h rfl] at V'
    exact V'
  · refine .inl ⟨x.a, -1, v.U, v.va, rfl, k.a, fun b H' s' V' => q b H' s' ?_⟩
    rw [va_box0 k.r N fun h => absurd (N.i0 _ h) (by decide)] at V'
    exact V'
section
variable {C CF CI g ff U M' NL f scr c0 P0 : Addr} {oc kV doc pm cdw ct : Value} {od an : Option Addr} {osl : Array (Option Value)} {fdF : FuncData} {T : TL'} {A : Around} {outer : List Env} {s : Shared} {H0 : Hp} {E : XK} {J : L2.St → Hp → Prop}
theorem segH (L : LawD P w K mg base C CF CI g ff U M' NL oc kV doc pm cdw ct od an osl fdF) (TB : LamX.TabB base mg c0 P0) (hT : T = [(P0, (lawX P w K mg base f (.ref c0) A outer s H0 E).env.qual ++ "<lambda>")]) (hr : Room 14 (lawX P w K mg base f (.ref c0) A outer s H0 E).A) (next : SegP (lawX P w K mg base f (.ref c0) A outer s H0 E) 15 (PreB T C CF scr) J) : SegP (lawX P w K mg base f (.ref c0) A outer s H0 E) 14 (PreG T C CF scr K) J := by
  obtain ⟨t, ht, hq⟩ := next
  have C' := L.fc
  have cS := L.sc
  have Tx := L.T
  have msorted := L.srt
  obtain ⟨_, _, DP⟩ := L.pull
  obtain ⟨_, _, DA⟩ := L.any
  obtain ⟨_, _, DS⟩ := L.same
  obtain ⟨_, _, DNm⟩ := L.names
  obtain ⟨_, _, DMx⟩ := L.mixed
  obtain ⟨_, _, DQ⟩ := L.quot
  obtain ⟨_, _, DLf⟩ := L.leaf
  obtain ⟨_, _, DSo⟩ := L.so
  obtain ⟨_, _, DTr⟩ := L.trim
  obtain ⟨_, _, DOr⟩ := L.order
  obtain ⟨_, _, DOd⟩ := L.odd
  obtain ⟨_, _, DPl⟩ := L.plus
  obtain ⟨_, _, DCo⟩ := L.copies
  obtain ⟨_, _, MSs⟩ := L.srcs
  obtain ⟨_, _, MBs⟩ := L.boxs
  obtain ⟨_, _, MEq⟩ := L.eq
  obtain ⟨_, _, MEqS⟩ := L.eqS
  obtain ⟨_, _, MBool⟩ := L.bool
  obtain ⟨_, _, MBoolS⟩ := L.boolS
  obtain ⟨_, _, MRepr⟩ := L.repr
  obtain ⟨_, _, MF, MFB, ⟨_, kF1⟩, kF2⟩ := L.madeF
  obtain ⟨_, _, MSo, kSo⟩ := L.src
  obtain ⟨_, _, MBo, kBo⟩ := L.box
  obtain ⟨fI, fdI, d, dv, MS⟩ := L.made
  refine ⟨_, (pss_cons (ps_if (pt_not (pt_val (pe_call DS.ok (hr.mono (by decide)) (by rfl) DS.m DS.kp DS.b .nil pass0 (pa_cons (pe_lst (pa_cons (pe_callTy (OwnX.call_boolO MBoolS (hr.mono (by decide))) (by rfl) Tx.bool (by decide +kernel) (pa_cons (pe_meth (pv 6) C'.cl MSo.mt MSo.ok (hr.mono (by decide)) MSo.b .nil pass0 (pa_cons (pv 11) pa_nil)) pa_nil)) (pa_cons (pe_callTy (OwnX.call_boolO MBoolS (hr.mono (by decide))) (by rfl) Tx.bool (by decide +kernel) (pa_cons (pe_meth (pv 6) C'.cl MBo.mt MBo.ok (hr.mono (by decide)) MBo.b .nil pass0 (pa_cons (pe_call DA.ok (hr.mono (by decide)) (by rfl) DA.m DA.kp DA.b .nil pass0 (pa_cons (pv 1) (pa_cons (pe_lst (pa_cons pe_non (pa_cons pe_str (pa_cons pe_int (pa_cons (pe_un un_neg pe_int) pa_nil))))) pa_nil))) pa_nil)) pa_nil)) pa_nil))) (pa_cons (pe_lst (pa_cons pe_bl (pa_cons pe_bl pa_nil))) pa_nil)))))
 (pss_one (ps_ret pe_bl))
 pss_nil)
 ht), fun D σ H pre post => ?_⟩
  obtain ⟨x, v, y, k, N, Y, v2, v8, v9, v10, v12, v13, v14, v15, v16, v17, v18, v19, v20, v21, rfl⟩ := pre
  have hsz : 1000000 < sizeLine := by decide
  obtain ⟨dx, fs, ha⟩ := k.a.ins
  obtain ⟨dx, d1, d2, o, q1, q2, R⟩ := id k.a
  refine ⟨_, rfl, x.a, dx, _, rfl, R.ha, rfl, _, rfl, src_odd k Y fun b H1 s1 V1 => bool0 V1 ?_⟩
  have k := k.same s1
  obtain ⟨dx, d1, d2, o, q1, q2, R⟩ := id k.a
  refine ⟨_, rfl, x.a, dx, _, rfl, R.ha, rfl, _, rfl, ?_⟩
  refine ⟨_, rfl, (by show 4 ≤ sizeLine; decide), fun lm hlm => ?_⟩
  have s2 := same_upd hlm (.lst [V.non, V.str "a", V.int 4, V.int (-1)])
  have g2 : upd H1 lm (.lst [V.non, V.str "a", V.int 4, V.int (-1)]) lm = some (.lst [V.non, V.str "a", V.int 4, V.int (-1)]) := upd_same
  have nlm : lm ≠ x.b := k.bag.fresh hlm
  have k := k.same s2
  generalize upd H1 lm (.lst [V.non, V.str "a", V.int 4, V.int (-1)]) = H2 at s2 g2 k ⊢
  refine ⟨x.b, x.c, .ref lm, _, rfl, k.bag, .inl ⟨lm, rfl, nlm, SqL.of g2⟩, by decide, by decide, fun yb H3 hy B3 k3 => ?_⟩
  have k := k.kp B3 k3
  refine box_odd k N hy fun b2 H4 s4 V2 => bool0 V2 ?_
  have k := k.same s4
  refine ⟨(by show 2 ≤ sizeLine; decide), fun p1 hp1 => ?_⟩
  have s5 := same_upd hp1 (.lst [V.bl false, V.bl false])
  have g5 : upd H4 p1 (.lst [V.bl false, V.bl false]) p1 = some (.lst [V.bl false, V.bl false]) := upd_same
  have k := k.same s5
  generalize upd H4 p1 (.lst [V.bl false, V.bl false]) = H5 at s5 g5 k ⊢
  refine ⟨(by show 2 ≤ sizeLine; decide), fun p2 hp2 => ?_⟩
  have s6 := same_upd hp2 (.lst [V.bl false, V.bl false])
  have g6 : upd H5 p2 (.lst [V.bl false, V.bl false]) p2 = some (.lst [V.bl false, V.bl false]) := upd_same
  have g5 := s6 _ _ g5
  have k := k.same s6
  generalize upd H5 p2 (.lst [V.bl false, V.bl false]) = H6 at s6 g5 g6 k ⊢
  refine ⟨.ref p1, .ref p2, rfl, eqv_lst g5 g6 ⟨.leaf (by trivial) _, .leaf (by trivial) _, trivial⟩ (by show 2 ≤ 100000; decide), fun H7 s7 => ⟨_, rfl, iteF ?_⟩⟩
  exact hq D _ _ ⟨x, v, k.same s7, N, _, _, _, _, _, _, _, _, _, _, _, _, _, _, _, rfl⟩ post
end
end
end Un
namespace Un
open PySem L2 TL
section
variable {P : Program} {w : World} {K : PySem.W.Frag} {mg : Str → Option Value} {base : Heap}
theorem eqS_rd {H : Hp} {C b1 b2 : Addr} {p q : SerM.Po} {R : V → Hp → Prop} (V1 : ValU H C b1 p q) (V2 : ValU H C b2 p q) (h : R (.bl true) H) : ∃ a' dx fs, V.ref b1 = .ref a' ∧ H a' = some (.ins C dx fs) ∧ OwnX.TyK2 K C (.ref b2) H ∧ spEqS C [.ref a', .ref b2] H (fun v H2 => ∃ b, v = .bl b ∧ R v H2) E0 := by
  obtain ⟨F, u, v, S, Rd⟩ := V1
  obtain ⟨_, u', v', S', Rd'⟩ := V2
  obtain ⟨rfl, rfl⟩ := SerM.red_uniq F.q1 Rd Rd'
  obtain ⟨dx, x, y, o, h1, _⟩ := id S
  obtain ⟨dx', x', y', o', h1', _⟩ := id S'
  refine ⟨b1, dx, _, rfl, h1, .inl (.inl ⟨b2, dx', _, rfl, h1'⟩), .inl ⟨b1, b2, u, v, u, v, rfl, S, S', ?_⟩⟩
  rw [decide_eq_true (rfl : u = u), decide_eq_true (rfl : v = v)]
  exact ⟨true, rfl, h⟩
section
variable {C CF CI g ff U M' NL f scr c0 P0 : Addr} {oc kV doc pm cdw ct : Value} {od an : Option Addr} {osl : Array (Option Value)} {fdF : FuncData} {T : TL'} {A : Around} {outer : List Env} {s : Shared} {H0 : Hp} {E : XK} {J : L2.St → Hp → Prop}
theorem segI (L : LawD P w K mg base C CF CI g ff U M' NL oc kV doc pm cdw ct od an osl fdF) (TB : LamX.TabB base mg c0 P0) (hT : T = [(P0, (lawX P w K mg base f (.ref c0) A outer s H0 E).env.qual ++ "<lambda>")]) (hr : Room 14 (lawX P w K mg base f (.ref c0) A outer s H0 E).A) (next : SegP (lawX P w K mg base f (.ref c0) A outer s H0 E) 17 (PreB T C CF scr) J) : SegP (lawX P w K mg base f (.ref c0) A outer s H0 E) 15 (PreB T C CF scr) J := by
  obtain ⟨t, ht, hq⟩ := next
  have C' := L.fc
  have cS := L.sc
  have Tx := L.T
  have msorted := L.srt
  obtain ⟨_, _, DP⟩ := L.pull
  obtain ⟨_, _, DA⟩ := L.any
  obtain ⟨_, _, DS⟩ := L.same
  obtain ⟨_, _, DNm⟩ := L.names
  obtain ⟨_, _, DMx⟩ := L.mixed
  obtain ⟨_, _, DQ⟩ := L.quot
  obtain ⟨_, _, DLf⟩ := L.leaf
  obtain ⟨_, _, DSo⟩ := L.so
  obtain ⟨_, _, DTr⟩ := L.trim
  obtain ⟨_, _, DOr⟩ := L.order
  obtain ⟨_, _, DOd⟩ := L.odd
  obtain ⟨_, _, DPl⟩ := L.plus
  obtain ⟨_, _, DCo⟩ := L.copies
  obtain ⟨_, _, MSs⟩ := L.srcs
  obtain ⟨_, _, MBs⟩ := L.boxs
  obtain ⟨_, _, MEq⟩ := L.eq
  obtain ⟨_, _, MEqS⟩ := L.eqS
  obtain ⟨_, _, MBool⟩ := L.bool
  obtain ⟨_, _, MBoolS⟩ := L.boolS
  obtain ⟨_, _, MRepr⟩ := L.repr
  obtain ⟨_, _, MF, MFB, ⟨_, kF1⟩, kF2⟩ := L.madeF
  obtain ⟨_, _, MSo, kSo⟩ := L.src
  obtain ⟨_, _, MBo, kBo⟩ := L.box
  obtain ⟨fI, fdI, d, dv, MS⟩ := L.made
  refine ⟨_, (pss_cons (ps_set (i := 12) scLaw.nd rfl (by first | exact Or.inl rfl | exact Or.inr rfl) (pe_lst (pa_cons (pe_cmpR (OwnX.op_eqO2 MEqS (hr.mono (by decide))) (pe_meth (pv 6) C'.cl MSo.mt MSo.ok (hr.mono (by decide)) MSo.b .nil pass0 (pa_cons (pe_ix ix_list (pv 3) pe_int (fun _ _ => rfl)) pa_nil)) (SupX.pe_methKw (pv 6) C'.cl MSo.mt MSo.ok (hr.mono (by decide)) kSo pass0 (pk_cons (pe_ix ix_list (pv 3) pe_int (fun _ _ => rfl)) pk_nil)) (nomark _)) (pa_cons (pe_cmpR (OwnX.op_eqO2 MEqS (hr.mono (by decide))) (SupX.pe_methKw (pv 6) C'.cl MBo.mt MBo.ok (hr.mono (by decide)) kBo pass0 (pk_cons (pe_ix ix_list (pv 4) pe_int (fun _ _ => rfl)) pk_nil)) (pe_meth (pv 6) C'.cl MBo.mt MBo.ok (hr.mono (by decide)) MBo.b .nil pass0 (pa_cons (pe_ix ix_list (pv 4) pe_int (fun _ _ => rfl)) pa_nil)) (nomark _)) pa_nil))))
 (pss_cons (ps_if (pt_not (pt_val (pe_call DS.ok (hr.mono (by decide)) (by rfl) DS.m DS.kp DS.b .nil pass0 (pa_cons (pv 12) (pa_cons (pe_lst (pa_cons pe_bl (pa_cons pe_bl pa_nil))) pa_nil)))))
 (pss_one (ps_ret pe_bl))
 pss_nil)
 ht)), fun D σ H pre post => ?_⟩
  obtain ⟨x, v, k, N, v2, v8, v9, v10, v11, v12, v13, v14, v15, v16, v17, v18, v19, v20, v21, rfl⟩ := pre
  have hsz : 1000000 < sizeLine := by decide
  obtain ⟨w0, w1, w2, ew, nm0, nm1, nm2⟩ := three N
  obtain ⟨i0, i1, i2, ei⟩ := threeI N
  have wl0 : w0.length ≤ 1000 := by have := nm0.l4; omega
  have L1 : ∀ {H' : Hp}, K27 T C CF H' x v → H' x.l1 = some (.lst ([w0, w1, w2].map V.str)) := fun k => by rw [← ew]; exact k.r.l1
  have L2' : ∀ {H' : Hp}, K27 T C CF H' x v → H' x.l2 = some (.lst ([i0, i1, i2].map V.int)) := fun k => by rw [← ei]; exact k.r.l2
  obtain ⟨dx, d1, d2, o, q1, q2, R⟩ := id k.a
  refine ⟨_, rfl, x.a, dx, _, rfl, R.ha, rfl, _, rfl, x.l1, _, 0, .str w0, rfl, rfl, SqL.of (L1 k), atI_zero, .inl ⟨x.a, w0, v.U, v.va, rfl, wl0, k.a, fun b1 H1 s1 V1 => ?_⟩⟩
  have k := k.same s1
  obtain ⟨dx, d1, d2, o, q1, q2, R⟩ := id k.a
  refine ⟨_, rfl, x.a, dx, _, rfl, R.ha, rfl, _, rfl, x.l1, _, 0, .str w0, rfl, rfl, SqL.of (L1 k), atI_zero, rfl, .inl ⟨x.a, w0, v.U, v.va, rfl, wl0, k.a, fun b2 H2 s2 V2 => ?_⟩⟩
  have k := k.same s2
  refine eqS_rd (V1.same s2) V2 ?_
  obtain ⟨dx, d1, d2, o, q1, q2, R⟩ := id k.a
  refine ⟨_, rfl, x.a, dx, _, rfl, R.ha, rfl, _, rfl, x.l2, _, 0, .int i0, rfl, rfl, SqL.of (L2' k), atI_zero, rfl, .inl ⟨x.a, i0, v.U, v.va, rfl, k.a, fun b3 H3 s3 V3 => ?_⟩⟩
  have k := k.same s3
  obtain ⟨dx, d1, d2, o, q1, q2, R⟩ := id k.a
  refine ⟨_, rfl, x.a, dx, _, rfl, R.ha, rfl, _, rfl, x.l2, _, 0, .int i0, rfl, rfl, SqL.of (L2' k), atI_zero, .inl ⟨x.a, i0, v.U, v.va, rfl, k.a, fun b4 H4 s4 V4 => ?_⟩⟩
  have k := k.same s4
  refine eqS_rd (V3.same s4) V4 ?_
  refine ⟨(by show 2 ≤ sizeLine; decide), fun p1 hp1 => ?_⟩
  have s5 := same_upd hp1 (.lst [V.bl true, V.bl true])
  have g5 : upd H4 p1 (.lst [V.bl true, V.bl true]) p1 = some (.lst [V.bl true, V.bl true]) := upd_same
  have k := k.same s5
  generalize upd H4 p1 (.lst [V.bl true, V.bl true]) = H5 at s5 g5 k ⊢
  refine ⟨_, rfl, (by show 2 ≤ sizeLine; decide), fun p2 hp2 => ?_⟩
  have s6 := same_upd hp2 (.lst [V.bl true, V.bl true])
  have g6 : upd H5 p2 (.lst [V.bl true, V.bl true]) p2 = some (.lst [V.bl true, V.bl true]) := upd_same
  have g5 := s6 _ _ g5
  have k := k.same s6
  generalize upd H5 p2 (.lst [V.bl true, V.bl true]) = H6 at s6 g5 g6 k ⊢
  refine ⟨.ref p1, .ref p2, rfl, eqv_lst g5 g6 ⟨.leaf (by trivial) _, .leaf (by trivial) _, trivial⟩ (by show 2 ≤ 100000; decide), fun H7 s7 => ⟨_, rfl, iteF ?_⟩⟩
  exact hq D _ _ ⟨x, v, k.same s7, N, _, _, _, _, _, _, _, _, _, _, _, _, _, _, _, rfl⟩ post
end
end
end Un
namespace Un
open PySem L2 TL
section
variable {P : Program} {w : World} {K : PySem.W.Frag} {mg : Str → Option Value} {base : Heap}
/-- the table with one entry changed -/
structure More (H : Hp) (v : Dat) (dm : Addr) (kn : List (Key × V)) (mn : Vf) : Prop where
  tab : MTab SrcOk H dm v.U kn mn
  fr : ∀ k, Frac (mn k).1 (mn k).2 uni
  ne : ∃ z, ¬ EqP (v.m1 (Sum.inr z)) (mn (Sum.inr z))
theorem More.same {H H' : Hp} {v : Dat} {dm : Addr} {kn : List (Key × V)} {mn : Vf} (h : More H v dm kn mn) (s : Same H H') : More H' v dm kn mn := ⟨h.tab.same s, h.fr, h.ne⟩
def PreJ (T : TL') (C CF scr : Addr) (σ : L2.St) (H : Hp) : Prop := ∃ (x : Adr) (v : Dat) (dm : Addr) (kn : List (Key × V)) (mn : Vf), K27 T C CF H x v ∧ N27 v ∧ More H v dm kn mn ∧ ∃ v2 v8 v9 v10 v11 v12 v14 v15 v16 v17 v18 v19 v20 v21 : Option V, σ = [some (.ref scr), some (.ref x.b), v2, some (.ref x.l1), some (.ref x.l2), some (.ref x.t1), some (.ref x.a), some (.bl true), v8, v9, v10, v11, v12, some (.ref dm), v14, v15, v16, v17, v18, v19, v20, v21]
theorem inc_ne {p q : SerM.Po} (q1 : SerM.ev q 0 = 1) : ¬ EqP (p, q) (SerM.trim (SerM.add p (SerM.smul 1 [1])), q) := fun h => by
  have : SerM.ev p 0 * SerM.ev q 0 = SerM.ev (SerM.trim (SerM.add p (SerM.smul 1 [1]))) 0 * SerM.ev q 0 := h 0
  rw [SerM.trim_ev, SerM.ev_add, SerM.ev_smul, ev_one, q1] at this
  omega
theorem inc_frac {p q : SerM.Po} (d : D3 p q) : Frac (SerM.trim (SerM.add p (SerM.smul 1 [1]))) q uni := (d.fp.sum fc_one (t := 1) (by decide)).frac d.fq d.q1 (by decide) (by decide) (by decide) (by decide)
section
variable {C CF CI g ff U M' NL f scr c0 P0 : Addr} {oc kV doc pm cdw ct : Value} {od an : Option Addr} {osl : Array (Option Value)} {fdF : FuncData} {T : TL'} {A : Around} {outer : List Env} {s : Shared} {H0 : Hp} {E : XK} {J : L2.St → Hp → Prop}
theorem segJ (L : LawD P w K mg base C CF CI g ff U M' NL oc kV doc pm cdw ct od an osl fdF) (TB : LamX.TabB base mg c0 P0) (hT : T = [(P0, (lawX P w K mg base f (.ref c0) A outer s H0 E).env.qual ++ "<lambda>")]) (hr : Room 14 (lawX P w K mg base f (.ref c0) A outer s H0 E).A) (next : SegP (lawX P w K mg base f (.ref c0) A outer s H0 E) 19 (PreJ T C CF scr) J) : SegP (lawX P w K mg base f (.ref c0) A outer s H0 E) 17 (PreB T C CF scr) J := by
  obtain ⟨t, ht, hq⟩ := next
  have C' := L.fc
  have cS := L.sc
  have Tx := L.T
  have msorted := L.srt
  obtain ⟨_, _, DP⟩ := L.pull
  obtain ⟨_, _, DA⟩ := L.any
  obtain ⟨_, _, DS⟩ := L.same
  obtain ⟨_, _, DNm⟩ := L.names
  obtain ⟨_, _, DMx⟩ := L.mixed
  obtain ⟨_, _, DQ⟩ := L.quot
  obtain ⟨_, _, DLf⟩ := L.leaf
  obtain ⟨_, _, DSo⟩ := L.so
  obtain ⟨_, _, DTr⟩ := L.trim
  obtain ⟨_, _, DOr⟩ := L.order
  obtain ⟨_, _, DOd⟩ := L.odd
  obtain ⟨_, _, DPl⟩ := L.plus
  obtain ⟨_, _, DCo⟩ := L.copies
  obtain ⟨_, _, MSs⟩ := L.srcs
  obtain ⟨_, _, MBs⟩ := L.boxs
  obtain ⟨_, _, MEq⟩ := L.eq
  obtain ⟨_, _, MEqS⟩ := L.eqS
  obtain ⟨_, _, MBool⟩ := L.bool
  obtain ⟨_, _, MBoolS⟩ := L.boolS
  obtain ⟨_, _, MRepr⟩ := L.repr
  obtain ⟨_, _, MF, MFB, ⟨_, kF1⟩, kF2⟩ := L.madeF
  obtain ⟨_, _, MSo, kSo⟩ := L.src
  obtain ⟨_, _, MBo, kBo⟩ := L.box
  obtain ⟨fI, fdI, d, dv, MS⟩ := L.made
  refine ⟨_, (pss_cons (ps_set (i := 13) scLaw.nd rfl (by first | exact Or.inl rfl | exact Or.inr rfl) (pe_callTy call_dictD (by rfl) L.dic (by decide +kernel) (pa_cons (pe_ix ix_tup (pv 5) pe_int (fun _ _ => rfl)) pa_nil)))
 (pss_cons (ps_dput (hu_of hr) (pv 13) (pe_ix ix_list (pv 3) pe_int (fun _ _ => rfl)) (pe_tup (pa_cons (pe_call DPl.ok (hr.mono (by decide)) (by rfl) DPl.m DPl.kp DPl.b .nil pass0 (pa_cons (pe_ix ix_tup (pe_dget2 (hu_of hr) (pe_ix ix_tup (pv 5) pe_int (fun _ _ => rfl)) (pe_ix ix_list (pv 3) pe_int (fun _ _ => rfl)) (pe_tup (pa_cons (pe_lst pa_nil) (pa_cons (pe_lst (pa_cons pe_int pa_nil)) pa_nil))) ⟨rfl, rfl, rfl, rfl⟩) pe_int (fun _ _ => rfl)) (pa_cons (pe_lst (pa_cons pe_int pa_nil)) (pa_cons pe_int pa_nil)))) (pa_cons (pe_ix ix_tup (pe_dget2 (hu_of hr) (pe_ix ix_tup (pv 5) pe_int (fun _ _ => rfl)) (pe_ix ix_list (pv 3) pe_int (fun _ _ => rfl)) (pe_tup (pa_cons (pe_lst pa_nil) (pa_cons (pe_lst (pa_cons pe_int pa_nil)) pa_nil))) ⟨rfl, rfl, rfl, rfl⟩) pe_int (fun _ _ => rfl)) pa_nil))) rfl)
 ht)), fun D σ H pre post => ?_⟩
  obtain ⟨x, v, k, N, v2, v8, v9, v10, v11, v12, v13, v14, v15, v16, v17, v18, v19, v20, v21, rfl⟩ := pre
  have hsz : 1000000 < sizeLine := by decide
  obtain ⟨w0, w1, w2, ew, nm0, nm1, nm2⟩ := three N
  have L1 : ∀ {H' : Hp}, K27 T C CF H' x v → H' x.l1 = some (.lst ([w0, w1, w2].map V.str)) := fun k => by rw [← ew]; exact k.r.l1
  have l1 := k.r.d1.l6 N
  have D0 := N.dm1 (Sum.inr w0)
  have k0 := k
  refine ⟨_, rfl, x.t1, _, _, _, rfl, rfl, SqT.of k.r.t1, rfl, x.d1, v.k1, rfl, .inl k.r.d1.at_, fun dm hdm => ?_⟩
  have s1 := same_upd hdm (.dK v.k1)
  have g1 : upd H dm (.dK v.k1) dm = some (.dK v.k1) := upd_same
  have k := k.same s1
  have M : MTab SrcOk (upd H dm (.dK v.k1)) dm v.U v.k1 v.m1 := ⟨g1, k.r.d1.ent, k.r.d1.nd, k.r.d1.sub, k.r.d1.u, k.r.d1.ok, k.r.d1.df⟩
  generalize upd H dm (.dK v.k1) = H1 at s1 g1 k M ⊢
  -- the new top
  dsimp only [gName, tSeq, sDPut, tTup, tCons, tCall, tOp]
  refine rd_get (k := Sum.inr w0) k.r.d1 (fun R r => ⟨_, rfl, x.t1, _, _, _, rfl, rfl, SqT.of k.r.t1, rfl, r⟩) (fun R r => ⟨_, rfl, x.l1, _, 0, .str w0, rfl, rfl, SqL.of (L1 k), atI_zero, r⟩) fun t2 H2 s2 T2 => ?_
  have k := k.same s2
  have M := M.same s2
  obtain ⟨px, py, h1, h2, h3⟩ := id T2
  refine ⟨t2, _, _, _, rfl, rfl, SqT.of h1, rfl, ?_⟩
  refine ⟨(by show 1 ≤ sizeLine; decide), fun e he => ?_⟩
  have s3 := same_upd he (.lst [V.int 1])
  have g3 : upd H2 e (.lst [V.int 1]) e = some (.lst (iv [1])) := upd_same
  have k := k.same s3
  have M := M.same s3
  have h2 := s3 _ _ h2
  generalize upd H2 e (.lst [V.int 1]) = H3 at s3 g3 k M h2 ⊢
  have pl := D0.fp.l
  refine ⟨px, e, _, [1], 1, rfl, SqL.of h2, SqL.of g3, by omega, by decide, by decide, fun r H4 s4 hr4 h4 => ?_⟩
  have k := k.same s4
  have M := M.same s4
  refine rd_get (k := Sum.inr w0) k.r.d1 (fun R r => ⟨_, rfl, x.t1, _, _, _, rfl, rfl, SqT.of k.r.t1, rfl, r⟩) (fun R r => ⟨_, rfl, x.l1, _, 0, .str w0, rfl, rfl, SqL.of (L1 k), atI_zero, r⟩) fun t5 H5 s5 T5 => ?_
  have k := k.same s5
  have M := M.same s5
  have h4 := s5 _ _ h4
  obtain ⟨qx, qy, f1, f2, f3⟩ := id T5
  refine ⟨t5, _, _, _, rfl, rfl, SqT.of f1, rfl, ?_⟩
  refine ⟨(by show 2 ≤ sizeLine; decide), fun t6 ht6 => ?_⟩
  have s6 := same_upd ht6 (.tup [V.ref r, V.ref qy])
  have g6 : upd H5 t6 (.tup [V.ref r, V.ref qy]) t6 = some (.tup [V.ref r, V.ref qy]) := upd_same
  have k := k.same s6
  have M := M.same s6
  have h4 := s6 _ _ h4
  have f3 := s6 _ _ f3
  generalize upd H5 t6 (.tup [V.ref r, V.ref qy]) = H6 at s6 g6 k M h4 f3 ⊢
  have T6 : TopBot H6 t6 (SerM.trim (SerM.add (v.m1 (Sum.inr w0)).1 (SerM.smul 1 [1])), (v.m1 (Sum.inr w0)).2).1 (SerM.trim (SerM.add (v.m1 (Sum.inr w0)).1 (SerM.smul 1 [1])), (v.m1 (Sum.inr w0)).2).2 := ⟨r, qy, g6, h4, f3⟩
  have hu : Sum.inr w0 ∈ v.U := by
    rw [N.u, ew]
    exact List.mem_append_left _ (by simp)
  refine ⟨_, rfl, _, rfl, x.l1, _, 0, .str w0, rfl, rfl, SqL.of (L1 k), atI_zero, dm, _, rfl, DPut.k (k := Sum.inr w0) M.at_ (by omega), ?_⟩
  have M' := M.put T6 hu ⟨w0, rfl, nm0⟩
  have s7 : Same H (upd H6 dm (.dK (putK v.k1 (Sum.inr w0) (.ref t6)))) := same_app (s1.trans (s2.trans (s3.trans (s4.trans (s5.trans s6))))) hdm
  generalize upd H6 dm (.dK (putK v.k1 (Sum.inr w0) (.ref t6))) = H7 at s7 M' ⊢
  refine hq D _ _ ⟨x, v, dm, _, _, k0.same s7, N, ⟨M', fun kk => ?_, w0, ?_⟩, _, _, _, _, _, _, _, _, _, _, _, _, _, _, rfl⟩ post
  · by_cases e : kk = Sum.inr w0
    · rw [e, setV_at]; exact inc_frac D0
    · rw [setV_ne e]; exact (N.dm1 kk).frac
  · rw [setV_at]
    exact inc_ne (p := (v.m1 (Sum.inr w0)).1) (q := (v.m1 (Sum.inr w0)).2) D0.q1
end
end
end Un
namespace OwnX
open PySem L2 TL
/-- ==, an instance of another class on the right -/
theorem op_eqO3 {X : Cx} {k : Nat} {C C2 f : Addr} {fd : FuncData} {ps : List Str} {sp : Sp} (M : OMt X.prog X.w X.K X.mg X.base C k f fd "__eq__" ps sp) (hsub : PySem.W.subIn X.K (.ref C2) (.ref C) = some false) (hr : Room k X.A) : OpR X (compareOp .Eq) (fun x y H Q => ∃ a dx fs, x = .ref a ∧ H a = some (.ins C dx fs) ∧ (∃ b dy gs, y = .ref b ∧ (H b = some (.ins C dy gs) ∨ H b = some (.ins C2 dy gs))) ∧ sp [.ref a, y] H (fun v H' => ∃ b, v = .bl b ∧ Q v H') E0) := by
  intro pins s σ H x y v u Q I rx ry h
  obtain ⟨a, dx, fs, rfl, ea, ⟨b, dy, gs, rfl, eb⟩, q⟩ := h
  rcases eb with eb | eb
  · exact op_eqO2 M hr pins s σ H _ _ v u Q I rx ry ⟨a, dx, fs, rfl, ea, .inl (.inl ⟨b, dy, gs, rfl, eb⟩), q⟩
  obtain ⟨m, fr⟩ := I.fr
  obtain ⟨ox, od, J, _⟩ := StX.insC_at I (.inr ⟨dx, fs, ea⟩)
  obtain ⟨oy, oe, J', _⟩ := StX.insC_at I (.inr ⟨dy, gs, eb⟩)
  cases rx
  have ry' := ry
  cases ry
  show wpAny (model X.prog X.w) X.A (richCompare .Eq (.ref a) (.ref b)) (EP X pins σ Q) X.xe s
  refine PySem.W.cmp_K (op := .Eq) (tb := .ref C2) hr.units0 fr I.ok.mod.kin J J'.type (by unfold PySem.W.notFirst; rw [hsub]; simp) M.mt.at_ M.mt.fn ?_
  refine wpAny_mono (run_own (pins := pins) (σ := σ) (A := X.A) M (vs := [.ref a, .ref b]) (us := [.ref a, .ref b]) rfl hr I (.cons rfl (.cons rfl .nil)) q) (fun r s' hu => ?_) fun e s' he => he
  obtain ⟨z, H', I', rv, b, rfl, q'⟩ := hu
  cases rv
  exact ⟨.bl b, H', I', rfl, q'⟩
end OwnX
namespace Un
open PySem L2 TL
section
variable {P : Program} {w : World} {K : PySem.W.Frag} {mg : Str → Option Value} {base : Heap}
theorem eqF_rd {H H' : Hp} {C CF a c : Addr} {U U2 : List Key} {v1 v2 : Vf} {R : VK} (V1 : FormV H C CF a U v1) (N2 : FormN H H' C CF c U2 v2) (s : Same H H') (q : ∀ (r : Bool) H2, Same H' H2 → (r = true ↔ ∀ k, (SrcK k ∨ BoxK k) → EqP (v1 k) (v2 k)) → R (.bl r) H2) :
    ∃ a' dx fs, V.ref a = .ref a' ∧ H' a' = some (.ins CF dx fs) ∧ (∃ b dy gs, V.ref c = .ref b ∧ (H' b = some (.ins CF dy gs) ∨ H' b = some (.ins C dy gs))) ∧ spEqFB C CF [.ref a', .ref c] H' (fun v H2 => ∃ b, v = .bl b ∧ R v H2) E0 := by
  obtain ⟨dx, d1, d2, o, k1, k2, R1⟩ := V1
  obtain ⟨dy, e1, e2, o', l1, l2, R2, n1, n2⟩ := N2
  have R1' := R1.same s
  exact ⟨a, dx, _, rfl, R1'.ha, ⟨c, dy, _, rfl, .inl R2.ha⟩, .inr ⟨a, c, dx, d1, d2, dy, e1, e2, o, o', U, U2, k1, k2, l1, l2, v1, v2, rfl, R1', R2, (fun z => by rw [← z, R1.t1.at_] at n1; cases n1), (fun z => by rw [← z, R1.t2.at_] at n2; cases n2), fun r H2 s2 hr => ⟨r, rfl, q r H2 s2 hr⟩⟩⟩
theorem eqSF_rd {H : Hp} {C CF a c : Addr} {U : List Key} {v1 : Vf} {p q' : SerM.Po} {R : VK} (V1 : FormV H C CF a U v1) (S : ValU H C c p q') (q : R (.bl false) H) :
    ∃ a' dx fs, V.ref a = .ref a' ∧ H a' = some (.ins CF dx fs) ∧ (∃ b dy gs, V.ref c = .ref b ∧ (H b = some (.ins CF dy gs) ∨ H b = some (.ins C dy gs))) ∧ spEqFB C CF [.ref a', .ref c] H (fun v H2 => ∃ b, v = .bl b ∧ R v H2) E0 := by
  obtain ⟨dx, d1, d2, o, k1, k2, R1⟩ := V1
  obtain ⟨dy, gs, hc⟩ := S.ins
  exact ⟨a, dx, _, rfl, R1.ha, ⟨c, dy, gs, rfl, .inr hc⟩, .inl ⟨a, c, dy, gs, rfl, hc, false, rfl, q⟩⟩
def PreK (T : TL') (C CF scr : Addr) (σ : L2.St) (H : Hp) : Prop := ∃ (x : Adr) (v : Dat) (p : Addr) (r3 : Bool), K27 T C CF H x v ∧ N27 v ∧ H p = some (.lst [.bl true, .bl false, .bl r3, .bl false]) ∧ (r3 = true ↔ ∀ k, Zp (v.va k)) ∧ ∃ v2 v8 v9 v10 v11 v12 v13 v15 v16 v17 v18 v19 v20 v21 : Option V, σ = [some (.ref scr), some (.ref x.b), v2, some (.ref x.l1), some (.ref x.l2), some (.ref x.t1), some (.ref x.a), some (.bl true), v8, v9, v10, v11, v12, v13, some (.ref p), v15, v16, v17, v18, v19, v20, v21]
theorem eq_zero' {a : SerM.Po × SerM.Po} (h : EqP a v0) : Zp a := fun x => by
  have : SerM.ev a.1 x * SerM.ev [1] x = SerM.ev [] x * SerM.ev a.2 x := h x
  rw [ev_one, ev_nil] at this
  omega
theorem eq_zero {a : SerM.Po × SerM.Po} (h : Zp a) : EqP a v0 := fun x => by
  show SerM.ev a.1 x * SerM.ev [1] x = SerM.ev [] x * _
  rw [h x, ev_nil, Int.zero_mul, Int.zero_mul]
section
variable {C CF CI g ff U M' NL f scr c0 P0 : Addr} {oc kV doc pm cdw ct : Value} {od an : Option Addr} {osl : Array (Option Value)} {fdF : FuncData} {T : TL'} {A : Around} {outer : List Env} {s : Shared} {H0 : Hp} {E : XK} {J : L2.St → Hp → Prop}
theorem segK (L : LawD P w K mg base C CF CI g ff U M' NL oc kV doc pm cdw ct od an osl fdF) (TB : LamX.TabB base mg c0 P0) (hT : T = [(P0, (lawX P w K mg base f (.ref c0) A outer s H0 E).env.qual ++ "<lambda>")]) (hr : Room 14 (lawX P w K mg base f (.ref c0) A outer s H0 E).A) (next : SegP (lawX P w K mg base f (.ref c0) A outer s H0 E) 20 (PreK T C CF scr) J) : SegP (lawX P w K mg base f (.ref c0) A outer s H0 E) 19 (PreJ T C CF scr) J := by
  obtain ⟨t, ht, hq⟩ := next
  have C' := L.fc
  have cS := L.sc
  have Tx := L.T
  have msorted := L.srt
  obtain ⟨_, _, DP⟩ := L.pull
  obtain ⟨_, _, DA⟩ := L.any
  obtain ⟨_, _, DS⟩ := L.same
  obtain ⟨_, _, DNm⟩ := L.names
  obtain ⟨_, _, DMx⟩ := L.mixed
  obtain ⟨_, _, DQ⟩ := L.quot
  obtain ⟨_, _, DLf⟩ := L.leaf
  obtain ⟨_, _, DSo⟩ := L.so
  obtain ⟨_, _, DTr⟩ := L.trim
  obtain ⟨_, _, DOr⟩ := L.order
  obtain ⟨_, _, DOd⟩ := L.odd
  obtain ⟨_, _, DPl⟩ := L.plus
  obtain ⟨_, _, DCo⟩ := L.copies
  obtain ⟨_, _, MSs⟩ := L.srcs
  obtain ⟨_, _, MBs⟩ := L.boxs
  obtain ⟨_, _, MEq⟩ := L.eq
  obtain ⟨_, _, MEqS⟩ := L.eqS
  obtain ⟨_, _, MBool⟩ := L.bool
  obtain ⟨_, _, MBoolS⟩ := L.boolS
  obtain ⟨_, _, MRepr⟩ := L.repr
  obtain ⟨_, _, MF, MFB, ⟨_, kF1⟩, kF2⟩ := L.madeF
  obtain ⟨_, _, MSo, kSo⟩ := L.src
  obtain ⟨_, _, MBo, kBo⟩ := L.box
  obtain ⟨fI, fdI, d, dv, MS⟩ := L.made
  refine ⟨_, (pss_cons (ps_set (i := 14) scLaw.nd rfl (by first | exact Or.inl rfl | exact Or.inr rfl) (pe_lst (pa_cons (pe_cmpR (OwnX.op_eqO3 MEq L.hsub (hr.mono (by decide))) (pv 6) (pe_call DLf.ok (hr.mono (by decide)) (by rfl) DLf.m DLf.kp DLf.b .nil pass0 (pa_cons (pe_ix ix_tup (pv 5) pe_int (fun _ _ => rfl)) (pa_cons (pe_ix ix_tup (pv 5) pe_int (fun _ _ => rfl)) pa_nil))) (nomark _)) (pa_cons (pe_cmpR (OwnX.op_eqO3 MEq L.hsub (hr.mono (by decide))) (pv 6) (pe_call DLf.ok (hr.mono (by decide)) (by rfl) DLf.m DLf.kp DLf.b .nil pass0 (pa_cons (pv 13) (pa_cons (pe_ix ix_tup (pv 5) pe_int (fun _ _ => rfl)) pa_nil))) (nomark _)) (pa_cons (pe_cmpR (OwnX.op_eqO3 MEq L.hsub (hr.mono (by decide))) (pv 6) (pe_make MF.mkF MF.ok (hr.mono (by decide)) (by rfl) MF.m MF.b2 .nil pass0 (pa_cons pe_dnewK (pa_cons pe_dnewK pa_nil))) (nomark _)) (pa_cons (pe_cmpR (OwnX.op_eqO3 MEq L.hsub (hr.mono (by decide))) (pv 6) (pe_meth (pv 6) C'.cl MSo.mt MSo.ok (hr.mono (by decide)) MSo.b .nil pass0 (pa_cons (pe_ix ix_list (pv 3) pe_int (fun _ _ => rfl)) pa_nil)) (nomark _)) pa_nil))))))
 ht), fun D σ H pre post => ?_⟩
  obtain ⟨x, v, dm, kn, mn, k, N, Mo, v2, v8, v9, v10, v11, v12, v14, v15, v16, v17, v18, v19, v20, v21, rfl⟩ := pre
  have hsz : 1000000 < sizeLine := by decide
  obtain ⟨w0, w1, w2, ew, nm0, nm1, nm2⟩ := three N
  have wl0 : w0.length ≤ 1000 := by have := nm0.l4; omega
  have L1 : ∀ {H' : Hp}, K27 T C CF H' x v → H' x.l1 = some (.lst ([w0, w1, w2].map V.str)) := fun k => by rw [← ew]; exact k.r.l1
  have fa1 : ∀ k, Frac (v.m1 k).1 (v.m1 k).2 uni := fun k => (N.dm1 k).frac
  have fa2 : ∀ k, Frac (v.m2 k).1 (v.m2 k).2 uni := fun k => (N.dm2 k).frac
  -- the same
  refine ⟨_, rfl, _, rfl, x.t1, _, _, _, rfl, rfl, SqT.of k.r.t1, rfl, _, rfl, x.t1, _, _, _, rfl, rfl, SqT.of k.r.t1, rfl, x.d1, x.d2, v.U, v.k1, v.k2, v.m1, v.m2, rfl, k.r.d1, k.r.d2, fa1, fa2, fun c1 H1 s1 N1 => ?_⟩
  refine eqF_rd k.a N1 s1 fun r1 H2 s2 hr1 => ?_
  obtain rfl : r1 = true := hr1.mpr fun kk _ _ => rfl
  have s02 := s1.trans s2
  have k := k.same s02
  have Mo := Mo.same s02
  -- one more
  refine ⟨_, rfl, _, rfl, _, rfl, x.t1, _, _, _, rfl, rfl, SqT.of k.r.t1, rfl, dm, x.d2, v.U, kn, v.k2, mn, v.m2, rfl, Mo.tab, k.r.d2, Mo.fr, fa2, fun c3 H3 s3 N3 => ?_⟩
  refine eqF_rd k.a N3 s3 fun r2 H4 s4 hr2 => ?_
  obtain rfl : r2 = false := by
    cases r2 with
    | false => rfl
    | true =>
      obtain ⟨z, hz⟩ := Mo.ne
      exact absurd (hr2.mp rfl (Sum.inr z) (.inl ⟨z, rfl⟩)) hz
  have k := k.same (s3.trans s4)
  -- none
  refine ⟨_, rfl, fun f1 hf1 f2 hf2 => ?_⟩
  have s5 := same_upd hf1 (.dK [])
  have ga : upd H4 f1 (.dK []) f1 = some (.dK []) := upd_same
  generalize upd H4 f1 (.dK []) = H5 at s5 ga hf2 ⊢
  have s6 := s5.trans (same_upd hf2 (.dK []))
  have ga := same_upd hf2 (.dK []) _ _ ga
  have gb : upd H5 f2 (.dK []) f2 = some (.dK []) := upd_same
  have k := k.same s6
  generalize upd H5 f2 (.dK []) = H6 at s6 ga gb k ⊢
  intro c7 d7 hc7 hd7 ne7
  have T0 : ∀ {f : Addr}, H6 f = some (.dK []) → TVal H6 C f v.U [] (fun _ => v0) := fun h => ⟨h, (fun p hp => nomatch hp), List.nodup_nil, (fun p hp => nomatch hp), N.ul⟩
  refine form_made (U := v.U) (k1 := []) (k2 := []) (val := fun _ => v0) hc7 hd7 ne7 ⟨.inr ⟨f1, rfl, T0 ga, fun p hp => nomatch hp⟩, .inr ⟨f2, rfl, T0 gb, fun p hp => nomatch hp⟩, fun _ _ _ _ => rfl, fun _ _ _ _ => rfl, fun _ => frac0, N.ul⟩ fun H7 s7 N7 => ?_
  refine eqF_rd k.a N7 s7 fun r3 H8 s8 hr3 => ?_
  have k := k.same (s7.trans s8)
  -- a series
  obtain ⟨dx, e1, e2, o, q1, q2, R⟩ := id k.a
  refine ⟨_, rfl, _, rfl, x.a, dx, _, rfl, R.ha, rfl, _, rfl, x.l1, _, 0, .str w0, rfl, rfl, SqL.of (L1 k), atI_zero, .inl ⟨x.a, w0, v.U, v.va, rfl, wl0, k.a, fun b H9 s9 V9 => ?_⟩⟩
  have k := k.same s9
  refine eqSF_rd k.a V9 ?_
  refine ⟨(by show 4 ≤ sizeLine; decide), fun p hp => ?_⟩
  have s10 := same_upd hp (.lst [V.bl true, V.bl false, V.bl r3, V.bl false])
  refine hq D _ _ ⟨x, v, p, r3, k.same s10, N, upd_same, ?_, _, _, _, _, _, _, _, _, _, _, _, _, _, _, rfl⟩ post
  rw [hr3]
  exact ⟨fun h kk => eq_zero' (h kk (src_or kk)), fun h kk _ => eq_zero (h kk)⟩
end
end
end Un
namespace Un
open PySem L2 TL
section
variable {P : Program} {w : World} {K : PySem.W.Frag} {mg : Str → Option Value} {base : Heap}
def PreL (T : TL') (C CF scr : Addr) (σ : L2.St) (H : Hp) : Prop := ∃ (x : Adr) (v : Dat) (so : Addr), K27 T C CF H x v ∧ N27 v ∧ SerAt H C so [1] [1] ∧ ∃ v2 v8 v9 v10 v11 v12 v13 v14 v16 v17 v18 v19 v20 v21 : Option V, σ = [some (.ref scr), some (.ref x.b), v2, some (.ref x.l1), some (.ref x.l2), some (.ref x.t1), some (.ref x.a), some (.bl true), v8, v9, v10, v11, v12, v13, v14, some (.ref so), v16, v17, v18, v19, v20, v21]
section
variable {C CF CI g ff U M' NL f scr c0 P0 : Addr} {oc kV doc pm cdw ct : Value} {od an : Option Addr} {osl : Array (Option Value)} {fdF : FuncData} {T : TL'} {A : Around} {outer : List Env} {s : Shared} {H0 : Hp} {E : XK} {J : L2.St → Hp → Prop}
theorem segL (L : LawD P w K mg base C CF CI g ff U M' NL oc kV doc pm cdw ct od an osl fdF) (TB : LamX.TabB base mg c0 P0) (hT : T = [(P0, (lawX P w K mg base f (.ref c0) A outer s H0 E).env.qual ++ "<lambda>")]) (hr : Room 14 (lawX P w K mg base f (.ref c0) A outer s H0 E).A) (next : SegP (lawX P w K mg base f (.ref c0) A outer s H0 E) 23 (PreL T C CF scr) J) : SegP (lawX P w K mg base f (.ref c0) A outer s H0 E) 20 (PreK T C CF scr) J := by
  obtain ⟨t, ht, hq⟩ := next
  have C' := L.fc
  have cS := L.sc
  have Tx := L.T
  have msorted := L.srt
  obtain ⟨_, _, DP⟩ := L.pull
  obtain ⟨_, _, DA⟩ := L.any
  obtain ⟨_, _, DS⟩ := L.same
  obtain ⟨_, _, DNm⟩ := L.names
  obtain ⟨_, _, DMx⟩ := L.mixed
  obtain ⟨_, _, DQ⟩ := L.quot
  obtain ⟨_, _, DLf⟩ := L.leaf
  obtain ⟨_, _, DSo⟩ := L.so
  obtain ⟨_, _, DTr⟩ := L.trim
  obtain ⟨_, _, DOr⟩ := L.order
  obtain ⟨_, _, DOd⟩ := L.odd
  obtain ⟨_, _, DPl⟩ := L.plus
  obtain ⟨_, _, DCo⟩ := L.copies
  obtain ⟨_, _, MSs⟩ := L.srcs
  obtain ⟨_, _, MBs⟩ := L.boxs
  obtain ⟨_, _, MEq⟩ := L.eq
  obtain ⟨_, _, MEqS⟩ := L.eqS
  obtain ⟨_, _, MBool⟩ := L.bool
  obtain ⟨_, _, MBoolS⟩ := L.boolS
  obtain ⟨_, _, MRepr⟩ := L.repr
  obtain ⟨_, _, MF, MFB, ⟨_, kF1⟩, kF2⟩ := L.madeF
  obtain ⟨_, _, MSo, kSo⟩ := L.src
  obtain ⟨_, _, MBo, kBo⟩ := L.box
  obtain ⟨fI, fdI, d, dv, MS⟩ := L.made
  refine ⟨_, (pss_cons (ps_if (pt_not (pt_val (pe_call DS.ok (hr.mono (by decide)) (by rfl) DS.m DS.kp DS.b .nil pass0 (pa_cons (pv 14) (pa_cons (pe_lst (pa_cons pe_bl (pa_cons pe_bl (pa_cons (pe_not (pe_callTy (OwnX.call_boolO MBool (hr.mono (by decide))) (by rfl) Tx.bool (by decide +kernel) (pa_cons (pv 6) pa_nil))) (pa_cons pe_bl pa_nil))))) pa_nil)))))
 (pss_one (ps_ret pe_bl))
 pss_nil)
 (pss_cons (ps_set (i := 15) scLaw.nd rfl (by first | exact Or.inl rfl | exact Or.inr rfl) (pe_make MS.mkS MS.ok (hr.mono (by decide)) (by rfl) MS.m MS.b1 MS.dS pass0 (pa_cons (pe_lst (pa_cons pe_int pa_nil)) pa_nil)))
 (pss_cons (ps_if (pt_not (pt_val (pe_call DCo.ok (hr.mono (by decide)) (by rfl) DCo.m DCo.kp DCo.b .nil pass0 (pa_cons (pe_ix ix_list (pv 3) pe_int (fun _ _ => rfl)) pa_nil))))
 (pss_one (ps_ret pe_bl))
 pss_nil)
 ht))), fun D σ H pre post => ?_⟩
  obtain ⟨x, v, p, r3, k, N, hp, hr3, v2, v8, v9, v10, v11, v12, v13, v15, v16, v17, v18, v19, v20, v21, rfl⟩ := pre
  have hsz : 1000000 < sizeLine := by decide
  obtain ⟨w0, w1, w2, ew, nm0, nm1, nm2⟩ := three N
  have L1 : ∀ {H' : Hp}, K27 T C CF H' x v → H' x.l1 = some (.lst ([w0, w1, w2].map V.str)) := fun k => by rw [← ew]; exact k.r.l1
  obtain ⟨dx, e1, e2, o, q1, q2, R⟩ := id k.a
  refine ⟨_, rfl, _, rfl, x.a, dx, _, rfl, R.ha, x.a, v.U, v.va, rfl, k.a, fun bo hbo => ⟨bo, rfl, bo, rfl, ?_⟩⟩
  obtain rfl : r3 = !bo := by
    cases bo with
    | false =>
      refine hr3.mpr fun kk => Classical.byContradiction fun n => ?_
      exact absurd (hbo.mpr ⟨kk, src_or kk, n⟩) (by decide)
    | true =>
      obtain ⟨kk, _, hz⟩ := hbo.mp rfl
      cases r3 with
      | false => rfl
      | true => exact absurd (hr3.mp rfl kk) hz
  refine ⟨(by show 4 ≤ sizeLine; decide), fun p2 hp2 => ?_⟩
  have s1 := same_upd hp2 (.lst [V.bl true, V.bl false, V.bl (!bo), V.bl false])
  have g1 : upd H p2 (.lst [V.bl true, V.bl false, V.bl (!bo), V.bl false]) p2 = some (.lst [V.bl true, V.bl false, V.bl (!bo), V.bl false]) := upd_same
  have hp := s1 _ _ hp
  have k := k.same s1
  generalize upd H p2 (.lst [V.bl true, V.bl false, V.bl (!bo), V.bl false]) = H1 at s1 g1 hp k ⊢
  refine ⟨.ref p, .ref p2, rfl, eqv_lst hp g1 ⟨.leaf (by trivial) _, .leaf (by trivial) _, .leaf (by trivial) _, .leaf (by trivial) _, trivial⟩ (by show 4 ≤ 100000; decide), fun H2 s2 => ⟨_, rfl, iteF ?_⟩⟩
  have k := k.same s2
  -- a series
  refine ⟨(by show 1 ≤ sizeLine; decide), fun l hl => ?_⟩
  have s3 := same_upd hl (.lst [V.int 1])
  have g3 : upd H2 l (.lst [V.int 1]) l = some (.lst (iv [1])) := upd_same
  have k := k.same s3
  generalize upd H2 l (.lst [V.int 1]) = H3 at s3 g3 k ⊢
  intro so ds hso hds ne
  refine one_made (C := C) hso hds ne (RowV.lst g3) (MS.row _) sm1 fun H4 s4 V4 => ?_
  have k := k.same s4
  have S4 := V4.top1 (fun _ => (by show (1 : Int) ≠ 0; decide))
  refine ⟨_, rfl, x.l1, _, 0, .str w0, rfl, rfl, SqL.of (L1 k), atI_zero, w0, rfl, nm0, fun H5 s5 => ⟨_, rfl, iteF ?_⟩⟩
  exact hq D _ _ ⟨x, v, so, k.same s5, N, S4.same s5, _, _, _, _, _, _, _, _, _, _, _, _, _, _, rfl⟩ post
end
end
end Un
namespace Un
open PySem L2 TL
section
variable {P : Program} {w : World} {K : PySem.W.Frag} {mg : Str → Option Value} {base : Heap}
theorem bag_at {H : Hp} {b c : Addr} (B : Bag H b c) : ∃ xs, H b = some (.lst xs) := by
  obtain ⟨ns, p, r, s, k, B⟩ := B
  exact ⟨_, B.lb⟩
theorem Sv.mv {H H' : Hp} {C CF b c : Addr} {y : V} {r : Bool} (h : Sv H C CF y r) (B : Bag H b c) (B' : Bag H' b c) (m : Mv b H H') : Sv H' C CF y r := by
  cases h with
  | ser h => exact .ser (h.mv B m)
  | non => exact .non
  | int => exact .int
  | str => exact .str
  | @lst a xs h =>
    by_cases e : a = b
    · subst e
      obtain ⟨ys, hy⟩ := bag_at B'
      exact .lst hy
    · exact .lst (m _ _ h e fun _ z => by cases z)
  | frm h => exact .frm (m _ _ h (bag_lst B h fun _ z => by cases z) fun _ z => by cases z)
theorem DAny.mv {H H' : Hp} {C CF b c d : Addr} {kvs : List (Key × V)} {sb : Key × V → Bool} (h : DAny H C CF d kvs sb) (B : Bag H b c) (B' : Bag H' b c) (m : Mv b H H') : DAny H' C CF d kvs sb :=
  ⟨m _ _ h.at_ (bag_ne B h.at_) (fun _ z => by cases z), fun p hp => (h.sv p hp).mv B B' m, h.nd, h.l, h.sl⟩
theorem NoD.mv {H H' : Hp} {b c : Addr} {y : V} (h : NoD H y) (B' : Bag H' b c) (m : Mv b H H') : NoD H' y := by
  cases h with
  | int => exact .int
  | str => exact .str
  | bl => exact .bl
  | @lst a xs h =>
    by_cases e : a = b
    · subst e
      obtain ⟨ys, hy⟩ := bag_at B'
      exact .lst hy
    · exact .lst (m _ _ h e fun _ z => by cases z)
theorem bdAt_mv {H H' : Hp} {b c d : Addr} (h : BD.BdAt H d) (B : Bag H b c) (m : Mv b H H') : BD.BdAt H' d := by
  obtain ⟨o, h1, h2⟩ := h
  exact ⟨o, m _ _ h1 (bag_lst B h1 fun _ z => by cases z) (fun _ z => by cases z), h2⟩
/-- what the constructor's questions tell of an argument -/
inductive SrcA (H : Hp) (C CF : Addr) : V → Bool → Prop where
  | non : SrcA H C CF .non true
  | no {v : V} : NoD H v → SrcA H C CF v false
  | dict {d : Addr} {kvs : List (Key × V)} {sb : Key × V → Bool} {r : Bool} : DAny H C CF d kvs sb → kvs.all (srcB sb) = r → SrcA H C CF (.ref d) r
inductive BoxA (H : Hp) (C CF : Addr) : V → Bool → Prop where
  | no {v : V} : NoD H v → BoxA H C CF v false
  | dict {d : Addr} {kvs : List (Key × V)} {sb : Key × V → Bool} {r : Bool} : DAny H C CF d kvs sb → kvs.all (boxB sb) = r → BoxA H C CF (.ref d) r
  | bd {d : Addr} : BD.BdAt H d → BoxA H C CF (.ref d) false
theorem SrcA.arg {H : Hp} {C CF : Addr} {v : V} {r : Bool} (h : SrcA H C CF v r) : ArgR (spAreSrcG K C CF) H v r := by
  cases h with
  | non => exact .inl ⟨rfl, rfl⟩
  | no h => exact .inr ⟨h.ne, h.src⟩
  | dict h e => exact .inr ⟨fun z => (by cases z), e ▸ asks_src h⟩
theorem BoxA.arg {H : Hp} {C CF : Addr} {v : V} {r : Bool} (h : BoxA H C CF v r) : ArgR (spAreBoxA K C CF) H v r := by
  cases h with
  | no h => exact .inr ⟨h.ne, h.box⟩
  | dict h e => exact .inr ⟨fun z => (by cases z), e ▸ asks_box h⟩
  | bd h => exact .inr ⟨fun z => (by cases z), asks_bd h⟩
theorem SrcA.mv {H H' : Hp} {C CF b c : Addr} {y : V} {r : Bool} (h : SrcA H C CF y r) (B : Bag H b c) (B' : Bag H' b c) (m : Mv b H H') : SrcA H' C CF y r := by
  cases h with
  | non => exact .non
  | no h => exact .no (h.mv B' m)
  | dict h e => exact .dict (h.mv B B' m) e
theorem BoxA.mv {H H' : Hp} {C CF b c : Addr} {y : V} {r : Bool} (h : BoxA H C CF y r) (B : Bag H b c) (B' : Bag H' b c) (m : Mv b H H') : BoxA H' C CF y r := by
  cases h with
  | no h => exact .no (h.mv B' m)
  | dict h e => exact .dict (h.mv B B' m) e
  | bd h => exact .bd (bdAt_mv h B m)
def BadP (H : Hp) (C CF : Addr) (a b : V) : Prop := SrcA H C CF a false ∨ (SrcA H C CF a true ∧ BoxA H C CF b false)
theorem BadP.mv {H H' : Hp} {C CF b c : Addr} {x y : V} (h : BadP H C CF x y) (B : Bag H b c) (B' : Bag H' b c) (m : Mv b H H') : BadP H' C CF x y := h.elim (fun h => .inl (h.mv B B' m)) fun h => .inr ⟨h.1.mv B B' m, h.2.mv B B' m⟩
/-- a pair that the constructor refuses -/
def BadAt (H : Hp) (C CF q : Addr) : Prop := ∃ a b, H q = some (.tup [a, b]) ∧ BadP H C CF a b
theorem BadAt.mv {H H' : Hp} {C CF b c q : Addr} (h : BadAt H C CF q) (B : Bag H b c) (B' : Bag H' b c) (m : Mv b H H') : BadAt H' C CF q := by
  obtain ⟨x, y, h1, h2⟩ := h
  exact ⟨x, y, m _ _ h1 (bag_lst B h1 fun _ z => by cases z) (fun _ z => by cases z), h2.mv B B' m⟩
theorem BadAt.same {H H' : Hp} {C CF b c q : Addr} (h : BadAt H C CF q) (B : Bag H b c) (s : Same H H') : BadAt H' C CF q := h.mv B (B.same s) (Mv.same s)
theorem vals00 : Vals [V.non, V.non] [Value.none, Value.none] := .cons rfl (.cons rfl .nil)
def PreM (T : TL') (C CF scr : Addr) (σ : L2.St) (H : Hp) : Prop := ∃ (x : Adr) (v : Dat) (so : Addr) (y : V), K27 T C CF H x v ∧ N27 v ∧ SerAt H C so [1] [1] ∧ Sv H C CF y false ∧ ∃ v2 v8 v9 v10 v11 v12 v13 v14 v17 v18 v19 v20 v21 : Option V, σ = [some (.ref scr), some (.ref x.b), v2, some (.ref x.l1), some (.ref x.l2), some (.ref x.t1), some (.ref x.a), some (.bl true), v8, v9, v10, v11, v12, v13, v14, some (.ref so), some y, v17, v18, v19, v20, v21]
section
variable {C CF CI g ff U M' NL f scr c0 P0 : Addr} {oc kV doc pm cdw ct : Value} {od an : Option Addr} {osl : Array (Option Value)} {fdF : FuncData} {T : TL'} {A : Around} {outer : List Env} {s : Shared} {H0 : Hp} {E : XK} {J : L2.St → Hp → Prop}
theorem segM (L : LawD P w K mg base C CF CI g ff U M' NL oc kV doc pm cdw ct od an osl fdF) (TB : LamX.TabB base mg c0 P0) (hT : T = [(P0, (lawX P w K mg base f (.ref c0) A outer s H0 E).env.qual ++ "<lambda>")]) (hr : Room 14 (lawX P w K mg base f (.ref c0) A outer s H0 E).A) (next : SegP (lawX P w K mg base f (.ref c0) A outer s H0 E) 24 (PreM T C CF scr) J) : SegP (lawX P w K mg base f (.ref c0) A outer s H0 E) 23 (PreL T C CF scr) J := by
  obtain ⟨t, ht, hq⟩ := next
  have C' := L.fc
  have cS := L.sc
  have Tx := L.T
  have msorted := L.srt
  obtain ⟨_, _, DP⟩ := L.pull
  obtain ⟨_, _, DA⟩ := L.any
  obtain ⟨_, _, DS⟩ := L.same
  obtain ⟨_, _, DNm⟩ := L.names
  obtain ⟨_, _, DMx⟩ := L.mixed
  obtain ⟨_, _, DQ⟩ := L.quot
  obtain ⟨_, _, DLf⟩ := L.leaf
  obtain ⟨_, _, DSo⟩ := L.so
  obtain ⟨_, _, DTr⟩ := L.trim
  obtain ⟨_, _, DOr⟩ := L.order
  obtain ⟨_, _, DOd⟩ := L.odd
  obtain ⟨_, _, DPl⟩ := L.plus
  obtain ⟨_, _, DCo⟩ := L.copies
  obtain ⟨_, _, MSs⟩ := L.srcs
  obtain ⟨_, _, MBs⟩ := L.boxs
  obtain ⟨_, _, MEq⟩ := L.eq
  obtain ⟨_, _, MEqS⟩ := L.eqS
  obtain ⟨_, _, MBool⟩ := L.bool
  obtain ⟨_, _, MBoolS⟩ := L.boolS
  obtain ⟨_, _, MRepr⟩ := L.repr
  obtain ⟨_, _, MF, MFB, ⟨_, kF1⟩, kF2⟩ := L.madeF
  obtain ⟨_, _, MSo, kSo⟩ := L.src
  obtain ⟨_, _, MBo, kBo⟩ := L.box
  obtain ⟨fI, fdI, d, dv, MS⟩ := L.made
  refine ⟨_, (pss_cons (ps_set (i := 16) scLaw.nd rfl (by first | exact Or.inl rfl | exact Or.inr rfl) (pe_call DA.ok (hr.mono (by decide)) (by rfl) DA.m DA.kp DA.b .nil pass0 (pa_cons (pv 1) (pa_cons (pe_lst (pa_cons pe_non (pa_cons pe_int (pa_cons pe_str (pa_cons (pe_lst (pa_cons pe_int pa_nil)) (pa_cons (pe_make0 MF.mkF MF.ok (hr.mono (by decide)) (by rfl) MF.m MF.b0 vals00 pass0) pa_nil)))))) pa_nil))))
 ht), fun D σ H pre post => ?_⟩
  obtain ⟨x, v, so, k, N, So, v2, v8, v9, v10, v11, v12, v13, v14, v16, v17, v18, v19, v20, v21, rfl⟩ := pre
  have hsz : 1000000 < sizeLine := by decide
  refine ⟨_, rfl, (by show 1 ≤ sizeLine; decide), fun l hl => ?_⟩
  have s1 := same_upd hl (.lst [V.int 1])
  have g1 : upd H l (.lst [V.int 1]) l = some (.lst [V.int 1]) := upd_same
  have k := k.same s1
  have So := So.same s1
  generalize upd H l (.lst [V.int 1]) = H1 at s1 g1 k So ⊢
  intro c2 d2 hc2 hd2 ne2
  refine form_made (U := v.U) (k1 := []) (k2 := []) (val := fun _ => v0) hc2 hd2 ne2 ⟨.inl ⟨rfl, rfl⟩, .inl ⟨rfl, rfl⟩, fun _ _ _ _ => rfl, fun _ _ _ _ => rfl, fun _ => frac0, N.ul⟩ fun H2 s2 N2 => ?_
  have k := k.same s2
  have So := So.same s2
  have g1 := s2 _ _ g1
  obtain ⟨dx, fs, hf⟩ := N2.v.ins
  refine ⟨(by show 5 ≤ sizeLine; decide), fun lm hlm => ?_⟩
  have s3 := same_upd hlm (.lst [V.non, V.int 1, V.str "1", V.ref l, V.ref c2])
  have g3 : upd H2 lm (.lst [V.non, V.int 1, V.str "1", V.ref l, V.ref c2]) lm = some (.lst [V.non, V.int 1, V.str "1", V.ref l, V.ref c2]) := upd_same
  have nlm : lm ≠ x.b := k.bag.fresh hlm
  have k := k.same s3
  have So := So.same s3
  have g1 := s3 _ _ g1
  have hf := s3 _ _ hf
  generalize upd H2 lm (.lst [V.non, V.int 1, V.str "1", V.ref l, V.ref c2]) = H3 at s3 g1 g3 k So hf ⊢
  refine ⟨x.b, x.c, .ref lm, _, rfl, k.bag, .inl ⟨lm, rfl, nlm, SqL.of g3⟩, (by show 0 < 5; decide), (by show 5 < 1073741824; decide), fun y H4 hy B4 k4 => ?_⟩
  have Y : Sv H3 C CF y false := by
    simp only [List.mem_cons, List.not_mem_nil, or_false] at hy
    rcases hy with rfl | rfl | rfl | rfl | rfl
    · exact .non
    · exact .int
    · exact .str
    · exact .lst g1
    · exact .frm hf
  exact hq D _ _ ⟨x, v, so, y, k.kp B4 k4, N, So.kp k.bag k4, Y.mv k.bag B4 (Mv.kp k4), _, _, _, _, _, _, _, _, _, _, _, _, _, rfl⟩ post
end
end
end Un
namespace Un
open PySem L2 TL
section
variable {P : Program} {w : World} {K : PySem.W.Frag} {mg : Str → Option Value} {base : Heap}
theorem disp1 {tk tv : TE} {σ : L2.St} {H : Hp} {Q : VK} {k : Key} {y : V} (hk : ∀ H1 R, Same H H1 → R (L2.kV k) H1 → tk σ H1 R) (hv : ∀ H1 R, Same H H1 → R y H1 → tv σ H1 R) (q : ∀ f H', Same H H' → H' f = some (.dK [(k, y)]) → Q (.ref f) H') : tDisp [(tk, tv)] σ H Q := by
  intro f hf
  have s1 := same_upd hf (.dK [])
  refine hk _ _ s1 (hv _ _ s1 ⟨upd_same, [(k, y)], rfl, (by show 1 ≤ 15; decide), ?_⟩)
  have e : mergeK [] [(k, y)] = [(k, y)] := rfl
  rw [e]
  exact q f _ (same_app s1 hf) upd_same
theorem disp2 {tk tv tk2 tv2 : TE} {σ : L2.St} {H : Hp} {Q : VK} {k k2 : Key} {y y2 : V} (ne : k2 ≠ k) (hk : ∀ H1 R, Same H H1 → R (L2.kV k) H1 → tk σ H1 R) (hv : ∀ H1 R, Same H H1 → R y H1 → tv σ H1 R) (hk2 : ∀ H1 R, Same H H1 → R (L2.kV k2) H1 → tk2 σ H1 R) (hv2 : ∀ H1 R, Same H H1 → R y2 H1 → tv2 σ H1 R) (q : ∀ f H', Same H H' → H' f = some (.dK [(k, y), (k2, y2)]) → Q (.ref f) H') : tDisp [(tk, tv), (tk2, tv2)] σ H Q := by
  intro f hf
  have s1 := same_upd hf (.dK [])
  refine hk _ _ s1 (hv _ _ s1 (hk2 _ _ s1 (hv2 _ _ s1 ⟨upd_same, [(k, y), (k2, y2)], rfl, (by show 2 ≤ 15; decide), ?_⟩)))
  have e : mergeK [] [(k, y), (k2, y2)] = [(k, y), (k2, y2)] := by
    show putK [(k, y)] k2 y2 = _
    rw [putK_new _ (not_val rfl (by simpa using ne))]; rfl
  rw [e]
  exact q f _ (same_app s1 hf) upd_same
theorem dany1 {H : Hp} {C CF d : Addr} {k : Key} {y : V} {b : Bool} (h : H d = some (.dK [(k, y)])) (Y : Sv H C CF y b) (sl : ∀ z, k = Sum.inr z → z.length ≤ 1000) : DAny H C CF d [(k, y)] (fun _ => b) :=
  ⟨h, fun p hp => by obtain rfl := List.mem_singleton.mp hp; exact Y, by simp, by show 1 ≤ 100; decide, fun p hp z e => by obtain rfl := List.mem_singleton.mp hp; exact sl z e⟩
theorem dany2 {H : Hp} {C CF d : Addr} {k k2 : Key} {y y2 : V} {b : Bool} (ne : k2 ≠ k) (h : H d = some (.dK [(k, y), (k2, y2)])) (Y : Sv H C CF y b) (Y2 : Sv H C CF y2 b) (sl : ∀ z, k = Sum.inr z → z.length ≤ 1000) (sl2 : ∀ z, k2 = Sum.inr z → z.length ≤ 1000) : DAny H C CF d [(k, y), (k2, y2)] (fun _ => b) :=
  ⟨h, fun p hp => by
    rcases List.mem_cons.mp hp with rfl | hp
    · exact Y
    · obtain rfl := List.mem_singleton.mp hp; exact Y2, by simp [Ne.symm ne], by show 2 ≤ 100; decide, fun p hp z e => by
    rcases List.mem_cons.mp hp with rfl | hp
    · exact sl z e
    · obtain rfl := List.mem_singleton.mp hp; exact sl2 z e⟩
theorem dany0 {H : Hp} {C CF d : Addr} (h : H d = some (.dK [])) : DAny H C CF d [] (fun _ => true) := ⟨h, fun p hp => (nomatch hp), List.nodup_nil, by decide, fun p hp => (nomatch hp)⟩
structure St27 (T : TL') (C CF : Addr) (H : Hp) (x : Adr) (v : Dat) (so : Addr) (y : V) (qs : List Addr) : Prop where
  k : K27 T C CF H x v
  so : SerAt H C so [1] [1]
  y : Sv H C CF y false
  bs : ∀ q ∈ qs, BadAt H C CF q
theorem St27.mv {T : TL'} {C CF : Addr} {H H' : Hp} {x : Adr} {v : Dat} {so : Addr} {y : V} {qs : List Addr} (h : St27 T C CF H x v so y qs) (m : Mv x.b H H') (B' : Bag H' x.b x.c) (t' : LamX.Tabs T H') : St27 T C CF H' x v so y qs :=
  ⟨h.k.mv m B' t', h.so.mv h.k.bag m, h.y.mv h.k.bag B' m, fun q hq => (h.bs q hq).mv h.k.bag B' m⟩
theorem St27.same {T : TL'} {C CF : Addr} {H H' : Hp} {x : Adr} {v : Dat} {so : Addr} {y : V} {qs : List Addr} (h : St27 T C CF H x v so y qs) (s : Same H H') : St27 T C CF H' x v so y qs := h.mv (Mv.same s) (h.k.bag.same s) (h.k.tabs.ext s)
theorem St27.kp {T : TL'} {C CF : Addr} {H H' : Hp} {x : Adr} {v : Dat} {so : Addr} {y : V} {qs : List Addr} (h : St27 T C CF H x v so y qs) (B' : Bag H' x.b x.c) (s : Kp x.b H H') : St27 T C CF H' x v so y qs := h.mv (Mv.kp s) B' (Tabs_kp h.k.bag s h.k.tabs)
theorem St27.add {T : TL'} {C CF : Addr} {H : Hp} {x : Adr} {v : Dat} {so q : Addr} {y : V} {qs : List Addr} (h : St27 T C CF H x v so y qs) (b : BadAt H C CF q) : St27 T C CF H x v so y (qs ++ [q]) := ⟨h.k, h.so, h.y, fun p hp => (List.mem_append.mp hp).elim (h.bs p) fun e => by rw [List.mem_singleton.mp e]; exact b⟩
/-- a pair of None and a dict that is no dict of boxes -/
def Fourth (H : Hp) (C CF q : Addr) : Prop := ∃ d, H q = some (.tup [.non, .ref d]) ∧ BoxA H C CF (.ref d) false
theorem Fourth.mv {H H' : Hp} {C CF b c q : Addr} (h : Fourth H C CF q) (B : Bag H b c) (B' : Bag H' b c) (m : Mv b H H') : Fourth H' C CF q := by
  obtain ⟨d, h1, h2⟩ := h
  exact ⟨d, m _ _ h1 (bag_lst B h1 fun _ z => by cases z) (fun _ z => by cases z), h2.mv B B' m⟩
theorem Fourth.same {H H' : Hp} {C CF b c q : Addr} (h : Fourth H C CF q) (B : Bag H b c) (s : Same H H') : Fourth H' C CF q := h.mv B (B.same s) (Mv.same s)
def PreN (n : Nat) (T : TL') (C CF scr : Addr) (σ : L2.St) (H : Hp) : Prop := ∃ (x : Adr) (v : Dat) (so : Addr) (y : V) (lp q4 : Addr) (qs : List Addr), St27 T C CF H x v so y qs ∧ N27 v ∧ H lp = some (.lst (qs.map V.ref)) ∧ lp ≠ x.b ∧ qs.length = n ∧ qs[3]? = some q4 ∧ Fourth H C CF q4 ∧ ∃ v2 v8 v9 v10 v11 v12 v13 v14 v16 v18 v19 v20 v21 : Option V, σ = [some (.ref scr), some (.ref x.b), v2, some (.ref x.l1), some (.ref x.l2), some (.ref x.t1), some (.ref x.a), some (.bl true), v8, v9, v10, v11, v12, v13, v14, some (.ref so), v16, some (.ref lp), v18, v19, v20, v21]
section
variable {C CF CI g ff U M' NL f scr c0 P0 : Addr} {oc kV doc pm cdw ct : Value} {od an : Option Addr} {osl : Array (Option Value)} {fdF : FuncData} {T : TL'} {A : Around} {outer : List Env} {s : Shared} {H0 : Hp} {E : XK} {J : L2.St → Hp → Prop}
theorem segN (L : LawD P w K mg base C CF CI g ff U M' NL oc kV doc pm cdw ct od an osl fdF) (TB : LamX.TabB base mg c0 P0) (hT : T = [(P0, (lawX P w K mg base f (.ref c0) A outer s H0 E).env.qual ++ "<lambda>")]) (hr : Room 14 (lawX P w K mg base f (.ref c0) A outer s H0 E).A) (next : SegP (lawX P w K mg base f (.ref c0) A outer s H0 E) 25 (PreN 6 T C CF scr) J) : SegP (lawX P w K mg base f (.ref c0) A outer s H0 E) 24 (PreM T C CF scr) J := by
  obtain ⟨t, ht, hq⟩ := next
  have C' := L.fc
  have cS := L.sc
  have Tx := L.T
  have msorted := L.srt
  obtain ⟨_, _, DP⟩ := L.pull
  obtain ⟨_, _, DA⟩ := L.any
  obtain ⟨_, _, DS⟩ := L.same
  obtain ⟨_, _, DNm⟩ := L.names
  obtain ⟨_, _, DMx⟩ := L.mixed
  obtain ⟨_, _, DQ⟩ := L.quot
  obtain ⟨_, _, DLf⟩ := L.leaf
  obtain ⟨_, _, DSo⟩ := L.so
  obtain ⟨_, _, DTr⟩ := L.trim
  obtain ⟨_, _, DOr⟩ := L.order
  obtain ⟨_, _, DOd⟩ := L.odd
  obtain ⟨_, _, DPl⟩ := L.plus
  obtain ⟨_, _, DCo⟩ := L.copies
  obtain ⟨_, _, MSs⟩ := L.srcs
  obtain ⟨_, _, MBs⟩ := L.boxs
  obtain ⟨_, _, MEq⟩ := L.eq
  obtain ⟨_, _, MEqS⟩ := L.eqS
  obtain ⟨_, _, MBool⟩ := L.bool
  obtain ⟨_, _, MBoolS⟩ := L.boolS
  obtain ⟨_, _, MRepr⟩ := L.repr
  obtain ⟨_, _, MF, MFB, ⟨_, kF1⟩, kF2⟩ := L.madeF
  obtain ⟨_, _, MSo, kSo⟩ := L.src
  obtain ⟨_, _, MBo, kBo⟩ := L.box
  obtain ⟨fI, fdI, d, dv, MS⟩ := L.made
  refine ⟨_, (pss_cons (ps_set (i := 17) scLaw.nd rfl (by first | exact Or.inl rfl | exact Or.inr rfl) (pe_lst (pa_cons (pe_tup (pa_cons (pe_disp (pps_cons (pe_ix ix_list (pv 3) pe_int (fun _ _ => rfl)) (pv 15) (pps_cons pe_str (pv 15) pps_nil)) (by rfl) (by rfl) (by simp) (by decide)) (pa_cons pe_non pa_nil))) (pa_cons (pe_tup (pa_cons (pe_disp (pps_cons pe_int (pv 15) pps_nil) (by rfl) (by rfl) (by simp) (by decide)) (pa_cons pe_non pa_nil))) (pa_cons (pe_tup (pa_cons (pe_disp (pps_cons (pe_ix ix_list (pv 3) pe_int (fun _ _ => rfl)) (pv 16) pps_nil) (by rfl) (by rfl) (by simp) (by decide)) (pa_cons pe_dnewK pa_nil))) (pa_cons (pe_tup (pa_cons pe_non (pa_cons (pe_disp (pps_cons (pe_un un_neg pe_int) (pv 15) pps_nil) (by rfl) (by rfl) (by simp) (by decide)) pa_nil))) (pa_cons (pe_tup (pa_cons pe_non (pa_cons (pe_disp (pps_cons pe_int (pv 15) (pps_cons pe_str (pv 15) pps_nil)) (by rfl) (by rfl) (by simp) (by decide)) pa_nil))) (pa_cons (pe_tup (pa_cons pe_dnewK (pa_cons (pe_disp (pps_cons pe_int (pv 16) pps_nil) (by rfl) (by rfl) (by simp) (by decide)) pa_nil))) pa_nil))))))))
 ht), fun D σ H pre post => ?_⟩
  obtain ⟨x, v, so, y, k, N, So, Y, v2, v8, v9, v10, v11, v12, v13, v14, v17, v18, v19, v20, v21, rfl⟩ := pre
  have hsz : 1000000 < sizeLine := by decide
  obtain ⟨w0, w1, w2, ew, nm0, nm1, nm2⟩ := three N
  have wl0 : w0.length ≤ 1000 := by have := nm0.l4; omega
  have nA : (Sum.inr "A" : Key) ≠ Sum.inr w0 := fun e => by
    injection e with e
    exact no_e1 (e ▸ nm0)
  have L1 : ∀ {H' : Hp}, K27 T C CF H' x v → H' x.l1 = some (.lst ([w0, w1, w2].map V.str)) := fun k => by rw [← ew]; exact k.r.l1
  have st : St27 T C CF H x v so y [] := ⟨k, So, Y, fun q hq => nomatch hq⟩
  clear k So Y
  have key0 : ∀ {H' H1 : Hp} {R : VK} {σ' : L2.St}, K27 T C CF H' x v → Same H' H1 → σ'[3]? = some (some (.ref x.l1)) → R (.str w0) H1 → tOp (rIxL K) (tVar 3) (tC (.int 0)) σ' H1 R := fun k s e r => ⟨_, e, x.l1, _, 0, .str w0, rfl, rfl, SqL.of (s _ _ (L1 k)), atI_zero, r⟩
  dsimp only [tSeq, tAsg, gName, tLst, tTup, tCons, tC]
  -- one
  refine disp2 (k := Sum.inr w0) (k2 := Sum.inr "A") nA (fun H1 R s r => key0 st.k s rfl r) (fun H1 R s r => ⟨_, rfl, r⟩) (fun H1 R s r => r) (fun H1 R s r => ⟨_, rfl, r⟩) fun d1 J1 s1 g1 => ?_
  have st := st.same s1
  have D1 := dany2 (CF := CF) nA g1 (.ser st.so) (.ser st.so) (fun z e => by cases e; exact wl0) (fun z e => by cases e; decide +kernel)
  refine ⟨(by show 2 ≤ sizeLine; decide), fun q1 hq1 => ?_⟩
  have t1 := same_upd hq1 (.tup [V.ref d1, V.non])
  have st := (st.same t1).add (CF := CF) (q := q1) ⟨_, _, upd_same, .inl (.dict (D1.mv st.k.bag (st.k.bag.same t1) (Mv.same t1)) (by
    have e : nameB ("A" : Str) = false := by decide +kernel
    simp [srcB, e]))⟩
  generalize upd J1 q1 (.tup [V.ref d1, V.non]) = K1 at st ⊢
  -- two
  refine disp1 (k := Sum.inl 3) (fun H1 R s r => r) (fun H1 R s r => ⟨_, rfl, r⟩) fun d2 J2 s2 g2 => ?_
  have st := st.same s2
  have D2 := dany1 (CF := CF) g2 (.ser st.so) (fun z e => by cases e)
  refine ⟨(by show 2 ≤ sizeLine; decide), fun q2 hq2 => ?_⟩
  have t2 := same_upd hq2 (.tup [V.ref d2, V.non])
  have st := (st.same t2).add (CF := CF) (q := q2) ⟨_, _, upd_same, .inl (.dict (D2.mv st.k.bag (st.k.bag.same t2) (Mv.same t2)) rfl)⟩
  generalize upd J2 q2 (.tup [V.ref d2, V.non]) = K2 at st ⊢
  -- three
  refine disp1 (k := Sum.inr w0) (fun H1 R s r => key0 st.k s rfl r) (fun H1 R s r => ⟨_, rfl, r⟩) fun d3 J3 s3 g3 => ?_
  have st := st.same s3
  intro e3 he3
  have u3 := same_upd he3 (.dK [])
  have g3 := u3 _ _ g3
  have st := st.same u3
  generalize upd J3 e3 (.dK []) = L3 at st g3 ⊢
  have D3' := dany1 (CF := CF) g3 st.y (fun z e => by cases e; exact wl0)
  refine ⟨(by show 2 ≤ sizeLine; decide), fun q3 hq3 => ?_⟩
  have t3 := same_upd hq3 (.tup [V.ref d3, V.ref e3])
  have st := (st.same t3).add (CF := CF) (q := q3) ⟨_, _, upd_same, .inl (.dict (D3'.mv st.k.bag (st.k.bag.same t3) (Mv.same t3)) (by simp [srcB]))⟩
  generalize upd L3 q3 (.tup [V.ref d3, V.ref e3]) = K3 at st ⊢
  -- four
  refine disp1 (k := Sum.inl (-1)) (fun H1 R s r => ⟨_, rfl, r⟩) (fun H1 R s r => ⟨_, rfl, r⟩) fun d4 J4 s4 g4 => ?_
  have st := st.same s4
  have D4 := dany1 (CF := CF) g4 (.ser st.so) (fun z e => by cases e)
  refine ⟨(by show 2 ≤ sizeLine; decide), fun q4 hq4 => ?_⟩
  have t4 := same_upd hq4 (.tup [V.non, V.ref d4])
  have X4 : BoxA (upd J4 q4 (.tup [V.non, V.ref d4])) C CF (.ref d4) false := .dict (D4.mv st.k.bag (st.k.bag.same t4) (Mv.same t4)) rfl
  have F4 : Fourth (upd J4 q4 (.tup [V.non, V.ref d4])) C CF q4 := ⟨d4, upd_same, X4⟩
  have st := (st.same t4).add (CF := CF) (q := q4) ⟨_, _, upd_same, .inr ⟨.non, X4⟩⟩
  generalize upd J4 q4 (.tup [V.non, V.ref d4]) = K4 at st F4 ⊢
  -- five
  refine disp2 (k := Sum.inl 0) (k2 := Sum.inr "a") (fun e => by cases e) (fun H1 R s r => r) (fun H1 R s r => ⟨_, rfl, r⟩) (fun H1 R s r => r) (fun H1 R s r => ⟨_, rfl, r⟩) fun d5 J5 s5 g5 => ?_
  have F4 := F4.same st.k.bag s5
  have st := st.same s5
  have D5 := dany2 (CF := CF) (fun e => by cases e) g5 (.ser st.so) (.ser st.so) (fun z e => by cases e) (fun z e => by cases e; decide +kernel)
  refine ⟨(by show 2 ≤ sizeLine; decide), fun q5 hq5 => ?_⟩
  have t5 := same_upd hq5 (.tup [V.non, V.ref d5])
  have F4 := F4.same st.k.bag t5
  have st := (st.same t5).add (CF := CF) (q := q5) ⟨_, _, upd_same, .inr ⟨.non, .dict (D5.mv st.k.bag (st.k.bag.same t5) (Mv.same t5)) rfl⟩⟩
  generalize upd J5 q5 (.tup [V.non, V.ref d5]) = K4 at st F4 ⊢
  -- six
  intro e6 he6
  have u6 := same_upd he6 (.dK [])
  have ge6 : upd K4 e6 (.dK []) e6 = some (.dK []) := upd_same
  have F4 := F4.same st.k.bag u6
  have st := st.same u6
  generalize upd K4 e6 (.dK []) = L6 at st F4 ge6 ⊢
  refine disp1 (k := Sum.inl 1) (fun H1 R s r => r) (fun H1 R s r => ⟨_, rfl, r⟩) fun d6 J6 s6 g6 => ?_
  have F4 := F4.same st.k.bag s6
  have ge6 := s6 _ _ ge6
  have st := st.same s6
  have D6 := dany1 (CF := CF) g6 st.y (fun z e => by cases e)
  have E6 := dany0 (C := C) (CF := CF) ge6
  refine ⟨(by show 2 ≤ sizeLine; decide), fun q6 hq6 => ?_⟩
  have t6 := same_upd hq6 (.tup [V.ref e6, V.ref d6])
  have F4 := F4.same st.k.bag t6
  have st := (st.same t6).add (CF := CF) (q := q6) ⟨_, _, upd_same, .inr ⟨.dict (E6.mv st.k.bag (st.k.bag.same t6) (Mv.same t6)) rfl, .dict (D6.mv st.k.bag (st.k.bag.same t6) (Mv.same t6)) rfl⟩⟩
  generalize upd J6 q6 (.tup [V.ref e6, V.ref d6]) = K5 at st F4 ⊢
  refine ⟨(by show 6 ≤ sizeLine; decide), fun lp hlp => ?_⟩
  have s7 := same_upd hlp (.lst [V.ref q1, V.ref q2, V.ref q3, V.ref q4, V.ref q5, V.ref q6])
  exact hq D _ _ ⟨x, v, so, y, lp, q4, _, st.same s7, N, upd_same, st.k.bag.fresh hlp, rfl, rfl, F4.same st.k.bag s7, _, _, _, _, _, _, _, _, _, _, _, _, _, rfl⟩ post
end
end
end Un
namespace Un
open PySem L2 TL
section
variable {P : Program} {w : World} {K : PySem.W.Frag} {mg : Str → Option Value} {base : Heap}
section
variable {C CF CI g ff U M' NL f scr c0 P0 : Addr} {oc kV doc pm cdw ct : Value} {od an : Option Addr} {osl : Array (Option Value)} {fdF : FuncData} {T : TL'} {A : Around} {outer : List Env} {s : Shared} {H0 : Hp} {E : XK} {J : L2.St → Hp → Prop}
theorem segO (L : LawD P w K mg base C CF CI g ff U M' NL oc kV doc pm cdw ct od an osl fdF) (TB : LamX.TabB base mg c0 P0) (hT : T = [(P0, (lawX P w K mg base f (.ref c0) A outer s H0 E).env.qual ++ "<lambda>")]) (hr : Room 14 (lawX P w K mg base f (.ref c0) A outer s H0 E).A) (next : SegP (lawX P w K mg base f (.ref c0) A outer s H0 E) 26 (PreN 9 T C CF scr) J) : SegP (lawX P w K mg base f (.ref c0) A outer s H0 E) 25 (PreN 6 T C CF scr) J := by
  obtain ⟨t, ht, hq⟩ := next
  have C' := L.fc
  have cS := L.sc
  have Tx := L.T
  have msorted := L.srt
  obtain ⟨_, _, DP⟩ := L.pull
  obtain ⟨_, _, DA⟩ := L.any
  obtain ⟨_, _, DS⟩ := L.same
  obtain ⟨_, _, DNm⟩ := L.names
  obtain ⟨_, _, DMx⟩ := L.mixed
  obtain ⟨_, _, DQ⟩ := L.quot
  obtain ⟨_, _, DLf⟩ := L.leaf
  obtain ⟨_, _, DSo⟩ := L.so
  obtain ⟨_, _, DTr⟩ := L.trim
  obtain ⟨_, _, DOr⟩ := L.order
  obtain ⟨_, _, DOd⟩ := L.odd
  obtain ⟨_, _, DPl⟩ := L.plus
  obtain ⟨_, _, DCo⟩ := L.copies
  obtain ⟨_, _, MSs⟩ := L.srcs
  obtain ⟨_, _, MBs⟩ := L.boxs
  obtain ⟨_, _, MEq⟩ := L.eq
  obtain ⟨_, _, MEqS⟩ := L.eqS
  obtain ⟨_, _, MBool⟩ := L.bool
  obtain ⟨_, _, MBoolS⟩ := L.boolS
  obtain ⟨_, _, MRepr⟩ := L.repr
  obtain ⟨_, _, MF, MFB, ⟨_, kF1⟩, kF2⟩ := L.madeF
  obtain ⟨_, _, MSo, kSo⟩ := L.src
  obtain ⟨_, _, MBo, kBo⟩ := L.box
  obtain ⟨fI, fdI, d, dv, MS⟩ := L.made
  refine ⟨_, (pss_cons (ps_set (i := 17) scLaw.nd rfl (by first | exact Or.inl rfl | exact Or.inr rfl) (pe_op op_cat (pv 17) (pe_lst (pa_cons (pe_tup (pa_cons (pe_call DA.ok (hr.mono (by decide)) (by rfl) DA.m DA.kp DA.b .nil pass0 (pa_cons (pv 1) (pa_cons (pe_lst (pa_cons pe_int (pa_cons pe_str (pa_cons (pe_lst (pa_cons (pe_ix ix_list (pv 3) pe_int (fun _ _ => rfl)) pa_nil)) (pa_cons pe_bl pa_nil))))) pa_nil))) (pa_cons pe_non pa_nil))) (pa_cons (pe_tup (pa_cons pe_non (pa_cons (pe_call DA.ok (hr.mono (by decide)) (by rfl) DA.m DA.kp DA.b .nil pass0 (pa_cons (pv 1) (pa_cons (pe_lst (pa_cons pe_int (pa_cons pe_str (pa_cons (pe_lst (pa_cons pe_int pa_nil)) (pa_cons pe_bl pa_nil))))) pa_nil))) pa_nil))) (pa_cons (pe_tup (pa_cons pe_non (pa_cons (BD.pe_dispB pe_bl (pv 15)) pa_nil))) pa_nil))))))
 ht), fun D σ H pre post => ?_⟩
  obtain ⟨x, v, so, y, lp, q4, qs, st, N, hlp, nlp, ql, q43, F4, v2, v8, v9, v10, v11, v12, v13, v14, v16, v18, v19, v20, v21, rfl⟩ := pre
  have hsz : 1000000 < sizeLine := by decide
  obtain ⟨w0, w1, w2, ew, nm0, nm1, nm2⟩ := three N
  have L1 : ∀ {H' : Hp}, K27 T C CF H' x v → H' x.l1 = some (.lst ([w0, w1, w2].map V.str)) := fun k => by rw [← ew]; exact k.r.l1
  -- one
  refine ⟨_, rfl, _, rfl, _, rfl, x.l1, _, 0, .str w0, rfl, rfl, SqL.of (L1 st.k), atI_zero, (by show 1 ≤ sizeLine; decide), fun la hla => ?_⟩
  have s1 := same_upd hla (.lst [V.str w0])
  have ga : upd H la (.lst [V.str w0]) la = some (.lst [V.str w0]) := upd_same
  have F4 := F4.same st.k.bag s1
  have st := st.same s1
  have hlp := s1 _ _ hlp
  generalize upd H la (.lst [V.str w0]) = H1 at st ga hlp F4 ⊢
  refine ⟨(by show 4 ≤ sizeLine; decide), fun lm hlm => ?_⟩
  have s2 := same_upd hlm (.lst [V.int 3, V.str "a", V.ref la, V.bl true])
  have gm : upd H1 lm (.lst [V.int 3, V.str "a", V.ref la, V.bl true]) lm = some (.lst [V.int 3, V.str "a", V.ref la, V.bl true]) := upd_same
  have nlm : lm ≠ x.b := st.k.bag.fresh hlm
  have F4 := F4.same st.k.bag s2
  have st := st.same s2
  have hlp := s2 _ _ hlp
  have ga := s2 _ _ ga
  generalize upd H1 lm (.lst [V.int 3, V.str "a", V.ref la, V.bl true]) = H2 at st ga gm hlp F4 ⊢
  refine ⟨x.b, x.c, .ref lm, _, rfl, st.k.bag, .inl ⟨lm, rfl, nlm, SqL.of gm⟩, (by show 0 < 4; decide), (by show 4 < 1073741824; decide), fun y1 H3 hy1 B3 k3 => ?_⟩
  have Y1 : NoD H2 y1 := by
    simp only [List.mem_cons, List.not_mem_nil, or_false] at hy1
    rcases hy1 with rfl | rfl | rfl | rfl
    · exact .int
    · exact .str
    · exact .lst ga
    · exact .bl
  have Y1 := Y1.mv B3 (Mv.kp k3)
  have F4 := F4.mv st.k.bag B3 (Mv.kp k3)
  have st := st.kp B3 k3
  have hlp := k3 _ _ hlp nlp
  refine ⟨(by show 2 ≤ sizeLine; decide), fun q7 hq7 => ?_⟩
  have s4 := same_upd hq7 (.tup [y1, V.non])
  have F4 := F4.same st.k.bag s4
  have hlp := s4 _ _ hlp
  have st := (st.same s4).add (CF := CF) (q := q7) ⟨_, _, upd_same, .inl (.no (Y1.mv (st.k.bag.same s4) (Mv.same s4)))⟩
  generalize upd H3 q7 (.tup [y1, V.non]) = H4 at st hlp F4 ⊢
  -- two
  refine ⟨_, rfl, (by show 1 ≤ sizeLine; decide), fun lb hlb => ?_⟩
  have s5 := same_upd hlb (.lst [V.int 1])
  have gb : upd H4 lb (.lst [V.int 1]) lb = some (.lst [V.int 1]) := upd_same
  have F4 := F4.same st.k.bag s5
  have st := st.same s5
  have hlp := s5 _ _ hlp
  generalize upd H4 lb (.lst [V.int 1]) = H5 at st gb hlp F4 ⊢
  refine ⟨(by show 4 ≤ sizeLine; decide), fun ln hln => ?_⟩
  have s6 := same_upd hln (.lst [V.int 3, V.str "a", V.ref lb, V.bl true])
  have gn : upd H5 ln (.lst [V.int 3, V.str "a", V.ref lb, V.bl true]) ln = some (.lst [V.int 3, V.str "a", V.ref lb, V.bl true]) := upd_same
  have nln : ln ≠ x.b := st.k.bag.fresh hln
  have F4 := F4.same st.k.bag s6
  have st := st.same s6
  have hlp := s6 _ _ hlp
  have gb := s6 _ _ gb
  generalize upd H5 ln (.lst [V.int 3, V.str "a", V.ref lb, V.bl true]) = H6 at st gb gn hlp F4 ⊢
  refine ⟨x.b, x.c, .ref ln, _, rfl, st.k.bag, .inl ⟨ln, rfl, nln, SqL.of gn⟩, (by show 0 < 4; decide), (by show 4 < 1073741824; decide), fun y2 H7 hy2 B7 k7 => ?_⟩
  have Y2 : NoD H6 y2 := by
    simp only [List.mem_cons, List.not_mem_nil, or_false] at hy2
    rcases hy2 with rfl | rfl | rfl | rfl
    · exact .int
    · exact .str
    · exact .lst gb
    · exact .bl
  have Y2 := Y2.mv B7 (Mv.kp k7)
  have F4 := F4.mv st.k.bag B7 (Mv.kp k7)
  have st := st.kp B7 k7
  have hlp := k7 _ _ hlp nlp
  refine ⟨(by show 2 ≤ sizeLine; decide), fun q8 hq8 => ?_⟩
  have s8 := same_upd hq8 (.tup [V.non, y2])
  have F4 := F4.same st.k.bag s8
  have hlp := s8 _ _ hlp
  have st := (st.same s8).add (CF := CF) (q := q8) ⟨_, _, upd_same, .inr ⟨.non, .no (Y2.mv (st.k.bag.same s8) (Mv.same s8))⟩⟩
  generalize upd H7 q8 (.tup [V.non, y2]) = H8 at st hlp F4 ⊢
  -- three
  intro d9 hd9
  have s9 := same_upd hd9 (.dK [])
  refine ⟨_, rfl, upd_same, _, rfl, fun o ok => ?_⟩
  have t9 := same_app (o := BD.BdO d9 o) s9 hd9
  have F4 := F4.same st.k.bag t9
  have hlp := t9 _ _ hlp
  have st := st.same t9
  have bd : BD.BdAt (upd (upd H8 d9 (.dK [])) d9 (BD.BdO d9 o)) d9 := ⟨o, upd_same, ok⟩
  generalize upd (upd H8 d9 (.dK [])) d9 (BD.BdO d9 o) = H9 at st hlp F4 bd ⊢
  refine ⟨(by show 2 ≤ sizeLine; decide), fun q9 hq9 => ?_⟩
  have s10 := same_upd hq9 (.tup [V.non, V.ref d9])
  have F4 := F4.same st.k.bag s10
  have hlp := s10 _ _ hlp
  have st := (st.same s10).add (CF := CF) (q := q9) ⟨_, _, upd_same, .inr ⟨.non, .bd (bd.same s10)⟩⟩
  generalize upd H9 q9 (.tup [V.non, V.ref d9]) = H10 at st hlp F4 ⊢
  refine ⟨(by show 3 ≤ sizeLine; decide), fun l3 hl3 => ?_⟩
  have s11 := same_upd hl3 (.lst [V.ref q7, V.ref q8, V.ref q9])
  have g3 : upd H10 l3 (.lst [V.ref q7, V.ref q8, V.ref q9]) l3 = some (.lst [V.ref q7, V.ref q8, V.ref q9]) := upd_same
  have F4 := F4.same st.k.bag s11
  have st := st.same s11
  have hlp := s11 _ _ hlp
  generalize upd H10 l3 (.lst [V.ref q7, V.ref q8, V.ref q9]) = H11 at st g3 hlp F4 ⊢
  refine ⟨_, _, _, _, rfl, rfl, hlp, g3, by rw [List.length_map, ql]; (show 9 ≤ sizeLine); decide, fun lz hlz => ?_⟩
  have s12 := same_upd hlz (.lst (qs.map V.ref ++ [V.ref q7, V.ref q8, V.ref q9]))
  have em : qs.map V.ref ++ [V.ref q7, V.ref q8, V.ref q9] = (qs ++ [q7] ++ [q8] ++ [q9]).map V.ref := by simp
  refine hq D _ _ ⟨x, v, so, y, lz, q4, _, st.same s12, N, by rw [upd_same, em], st.k.bag.fresh hlz, by simp [ql], ?_, F4.same st.k.bag s12, _, _, _, _, _, _, _, _, _, _, _, _, _, rfl⟩ post
  rw [List.append_assoc, List.append_assoc, List.getElem?_append_left (by rw [ql]; decide)]
  exact q43
end
end
end Un
namespace Un
open PySem L2 TL
section
variable {P : Program} {w : World} {K : PySem.W.Frag} {mg : Str → Option Value} {base : Heap}
theorem map_get4 {α : Type} {g : α → V} {l : List α} {i : Nat} {v : V} (h : (l.map g)[i]? = some v) : ∃ a, l[i]? = some a ∧ v = g a := by
  rw [List.getElem?_map] at h
  cases hh : l[i]? with
  | none => rw [hh] at h; cases h
  | some a => rw [hh] at h; injection h with h; exact ⟨a, rfl, h.symm⟩
theorem Tabs_wr {T : List (Addr × Str)} {H : Hp} {q : Addr} {xs : List V} (hq : H q = some (.lst xs)) (t : LamX.Tabs T H) (ys : List V) : LamX.Tabs T (upd H q (.lst ys)) := fun p hp => by
  obtain ⟨ps, h1, h2, h3⟩ := t p hp
  refine ⟨ps, by rw [upd_ne (ne_of h1 hq (by intro z; cases z))]; exact h1, h2, fun pos cv hc => ?_⟩
  obtain ⟨d, e1, e2⟩ := h3 pos cv hc
  exact ⟨d, e1, by rw [upd_ne (ne_of e2 hq (by intro z; cases z))]; exact e2⟩
theorem BadP.same {H H' : Hp} {C CF b c : Addr} {x y : V} (h : BadP H C CF x y) (B : Bag H b c) (s : Same H H') : BadP H' C CF x y := h.mv B (B.same s) (Mv.same s)
theorem BadP.arg {H : Hp} {C CF : Addr} {x y : V} (h : BadP H C CF x y) : ArgR (spAreSrcG K C CF) H x false ∨ (ArgR (spAreSrcG K C CF) H x true ∧ ArgR (spAreBoxA K C CF) H y false) := h.elim (fun h => .inl h.arg) fun h => .inr ⟨h.1.arg, h.2.arg⟩
section
variable {C CF CI g ff U M' NL f scr c0 P0 : Addr} {oc kV doc pm cdw ct : Value} {od an : Option Addr} {osl : Array (Option Value)} {fdF : FuncData} {T : TL'} {A : Around} {outer : List Env} {s : Shared} {H0 : Hp} {E : XK} {J : L2.St → Hp → Prop}
theorem segP (L : LawD P w K mg base C CF CI g ff U M' NL oc kV doc pm cdw ct od an osl fdF) (TB : LamX.TabB base mg c0 P0) (hT : T = [(P0, (lawX P w K mg base f (.ref c0) A outer s H0 E).env.qual ++ "<lambda>")]) (hr : Room 14 (lawX P w K mg base f (.ref c0) A outer s H0 E).A) (next : SegP (lawX P w K mg base f (.ref c0) A outer s H0 E) 27 (PreN 9 T C CF scr) J) : SegP (lawX P w K mg base f (.ref c0) A outer s H0 E) 26 (PreN 9 T C CF scr) J := by
  obtain ⟨t, ht, hq⟩ := next
  have C' := L.fc
  have cS := L.sc
  have Tx := L.T
  have msorted := L.srt
  obtain ⟨_, _, DP⟩ := L.pull
  obtain ⟨_, _, DA⟩ := L.any
  obtain ⟨_, _, DS⟩ := L.same
  obtain ⟨_, _, DNm⟩ := L.names
  obtain ⟨_, _, DMx⟩ := L.mixed
  obtain ⟨_, _, DQ⟩ := L.quot
  obtain ⟨_, _, DLf⟩ := L.leaf
  obtain ⟨_, _, DSo⟩ := L.so
  obtain ⟨_, _, DTr⟩ := L.trim
  obtain ⟨_, _, DOr⟩ := L.order
  obtain ⟨_, _, DOd⟩ := L.odd
  obtain ⟨_, _, DPl⟩ := L.plus
  obtain ⟨_, _, DCo⟩ := L.copies
  obtain ⟨_, _, MSs⟩ := L.srcs
  obtain ⟨_, _, MBs⟩ := L.boxs
  obtain ⟨_, _, MEq⟩ := L.eq
  obtain ⟨_, _, MEqS⟩ := L.eqS
  obtain ⟨_, _, MBool⟩ := L.bool
  obtain ⟨_, _, MBoolS⟩ := L.boolS
  obtain ⟨_, _, MRepr⟩ := L.repr
  obtain ⟨_, _, MF, MFB, ⟨_, kF1⟩, kF2⟩ := L.madeF
  obtain ⟨_, _, MSo, kSo⟩ := L.src
  obtain ⟨_, _, MBo, kBo⟩ := L.box
  obtain ⟨fI, fdI, d, dv, MS⟩ := L.made
  refine ⟨_, (pss_cons (ps_if (pt_not (pt_val (pe_callB (cr_all rfl) (by rfl) Tx.all (by decide +kernel) (pa_cons (pe_lc (own := [("_law_pair_here", 21)]) (g := (gName 21)) rfl scLaw.nd (pi_list (pv 17)) (blkOk_by (own := [("_law_pair_here", 21)]) (N := ["_law_script", "_law_bag_here", "_law_turn", "_law_names_here", "_law_indexes", "_law_model", "_law_form", "_law_good", "_law_tops", "_law_orders", "_law_sources_z", "_law_odd_here", "_law_late", "_law_more", "_law_same_here", "_law_one", "_law_wrong", "_law_pairs", "_law_name_z", "_law_index_z", "_law_top", "_law_pair_here"]) (sc := defScope sLaw) (by decide +kernel)) (fun _ _ _ _ _ => (pg_name (i := 21) scLaw.nd rfl (by first | exact Or.inl rfl | exact Or.inr rfl) (by first | exact Or.inl rfl | exact Or.inr rfl))) (fun _ _ _ _ _ => pts_nil) (fun _ _ _ _ _ => (pe_call DS.ok (hr.mono (by decide)) (by rfl) DS.m DS.kp DS.b .nil pass0 (pa_cons (LamX.pe_lamcall (T := T) (TT := TWhy K [.ref U, .ref M', .ref NL]) (k := 10) (t := fun E => tMake CF (spFormBad (spAreSrcG K C CF) (spAreBoxA K C CF) CF CI) [] E (tCons (tOp (rIxT K) (tVar 21) (tC (.int 0))) (tCons (tOp (rIxT K) (tVar 21) (tC (.int 1))) tNil))) (by rfl) L.mW L.kW L.lkW L.hcW L.bW scWhy rfl (Or.inl rfl) (why_gives (hr.mono (by decide)) L.GFd L.bF L.kF L.mFd L.mU L.mM L.mN) TB rfl (by rw [hT]; exact List.mem_singleton.mpr rfl) (fun p hp _ => by rw [hT] at hp; rw [List.mem_singleton.mp hp]; rfl) (hr.mono (by decide)) (LamX.lamS_by (sc := { kind := ScopeKind.function, names := [(".0", NameKind.local), ("_law_pair_here", NameKind.cell), ("_law_same", NameKind.globalImplicit), ("_law_why", NameKind.globalImplicit)], isGenerator := false, isCoroutine := false }) (by decide +kernel)) rfl (fun _ _ _ _ _ => by rfl)
   (fun A outer s H E f c' hr2 => (pe_make MFB.mkF MFB.ok (hr2.mono (by decide)) (by rfl) MFB.m MFB.b2 .nil (passes_call (takes_of rfl rfl rfl rfl) fun _ _ _ _ h => h) (pa_cons (pe_ix (ixTK (K := K) rfl) (pv 21) pe_int (fun _ _ => rfl)) (pa_cons (pe_ix (ixTK (K := K) rfl) (pv 21) pe_int (fun _ _ => rfl)) pa_nil))))) (pa_cons (pe_tup (pa_cons pe_str (pa_cons (pe_tup pa_nil) pa_nil))) pa_nil))))) pa_nil))))
 (pss_one (ps_ret pe_bl))
 pss_nil)
 ht), fun D σ H pre post => ?_⟩
  obtain ⟨x, v, so, y, lp, q4, qs, st, N, hlp, nlp, ql, q43, F4, v2, v8, v9, v10, v11, v12, v13, v14, v16, v18, v19, v20, v21, rfl⟩ := pre
  have hsz : 1000000 < sizeLine := by decide
  refine ⟨_, rfl, lp, rfl, ⟨_, SqL.of hlp⟩, fun m hm => ?_⟩
  have hn : (qs.map V.ref).length = 9 := by rw [List.length_map]; exact ql
  refine lc_it (walk_list (K := K) (xs := qs.map V.ref)) (fun i H2 => LamX.ExtN H H2 ∧ LamX.Tabs T H2 ∧ H2 m = some (.lst (List.replicate i (V.bl true)))) ⟨LamX.ExtN.of (same_upd hm _), st.k.tabs.ext (same_upd hm _), upd_same⟩ (fun i H2 _ h => SqL.of (h.1 _ _ hlp fun _ z => nomatch z)) ?_ ?_
  · rintro i w H2 H3 hi ⟨e2, tb2, h2⟩ ⟨rfl, hz⟩
    obtain ⟨t', ht', rfl⟩ := map_get4 hz
    refine ⟨rfl, tb2, fun H4 ext tabs4 => ?_⟩
    have e4 := e2.trans ext
    have B4 := Bag_ext st.k.bag e4
    obtain ⟨a0, b0, h1', hb'⟩ := (st.bs t' (List.mem_of_getElem? ht')).mv st.k.bag B4 (Mv.ext e4)
    have h2' := ext _ _ h2 (fun _ z => nomatch z)
    refine ⟨_, rfl, t', _, _, _, rfl, rfl, SqT.of h1', rfl, _, rfl, t', _, _, _, rfl, rfl, SqT.of h1', rfl, ?_⟩
    intro sa sd hsa hsd sne
    have hs1 : upd H4 sd (.own sa) sa = none := by rw [upd_ne sne.symm]; exact hsa
    have s5 : Same H4 (upd (upd H4 sd (.own sa)) sa (.ins CF sd [])) := (same_upd hsd _).trans (same_upd hs1 _)
    refine ⟨sa, a0, b0, rfl, (hb'.same B4 s5).arg, fun d' H6 s6 hd hd' => ⟨"InvalidForm", [], ⟨CI, d', _, rfl, L.er.xf, L.er.at_, rfl, hd', rfl, .cInvalidForm⟩, L.er.ex, fun t2 t1 H7 s7 ht2 ht1 ht2' => ?_⟩⟩
    have s47 := s5.trans (s6.trans s7)
    refine ⟨(by show 0 ≤ sizeLine; decide), fun t3 ht3 => ?_⟩
    have s8 := same_upd ht3 (.tup ([] : List V))
    have g3 : upd H7 t3 (.tup ([] : List V)) t3 = some (.tup []) := upd_same
    have ht1 := s8 _ _ ht1
    have ht2' := s8 _ _ ht2'
    generalize upd H7 t3 (.tup ([] : List V)) = H8 at s8 g3 ht1 ht2' ⊢
    refine ⟨(by show 2 ≤ sizeLine; decide), fun t4 ht4 => ?_⟩
    have s9 := same_upd ht4 (.tup [V.str "InvalidForm", V.ref t3])
    have g4 : upd H8 t4 (.tup [V.str "InvalidForm", V.ref t3]) t4 = some (.tup [V.str "InvalidForm", V.ref t3]) := upd_same
    have ht1 := s9 _ _ ht1
    have ht2' := s9 _ _ ht2'
    have g3 := s9 _ _ g3
    generalize upd H8 t4 (.tup [V.str "InvalidForm", V.ref t3]) = H9 at s9 g3 g4 ht1 ht2' ⊢
    refine ⟨.ref t2, .ref t4, rfl, eqv_told 1 ht2' ht1 g4 g3 (by decide) (fun z hz => nomatch hz), fun H10 s10 => ?_⟩
    have s410 := s47.trans (s8.trans (s9.trans s10))
    have eA := e4.trans (LamX.ExtN.of s410)
    refine ⟨_, s410 _ _ h2', by rw [List.length_replicate]; omega, fun o ob hb1 hb2 => ?_, ?_, ?_⟩
    · rw [upd_ne (ne_of_none hb1 hm)]; exact eA _ _ hb1 hb2
    · exact Tabs_wr (s410 _ _ h2') (tabs4.ext s410) _
    · rw [upd_same, List.replicate_succ']
  rintro H2 ⟨e2, tb2, h2⟩
  rw [hn] at h2
  refine ⟨m, List.replicate 9 true, rfl, SqL.of (by rw [h2, List.map_replicate]), ?_⟩
  rw [show (List.replicate 9 true).all id = true from rfl]
  refine ⟨_, rfl, iteF ?_⟩
  have B2 := Bag_ext st.k.bag e2
  exact hq D _ _ ⟨x, v, so, y, lp, q4, qs, st.mv (Mv.ext e2) B2 tb2, N, e2 _ _ hlp (fun _ z => nomatch z), nlp, ql, q43, F4.mv st.k.bag B2 (Mv.ext e2), _, _, _, _, _, _, _, _, _, _, _, _, _, rfl⟩ post
end
end
end Un
namespace Un
open PySem L2 TL
section
variable {P : Program} {w : World} {K : PySem.W.Frag} {mg : Str → Option Value} {base : Heap}
theorem ixLK {X : Cx} {K : PySem.W.Frag} (h : X.K = K) : IxR X (rIxL K) := h ▸ ix_list
section
variable {C CF CI g ff U M' NL f scr c0 P0 : Addr} {oc kV doc pm cdw ct : Value} {od an : Option Addr} {osl : Array (Option Value)} {fdF : FuncData} {T : TL'} {A : Around} {outer : List Env} {s : Shared} {H0 : Hp} {E : XK} {J : L2.St → Hp → Prop}
theorem segQ (L : LawD P w K mg base C CF CI g ff U M' NL oc kV doc pm cdw ct od an osl fdF) (TB : LamX.TabB base mg c0 P0) (hT : T = [(P0, (lawX P w K mg base f (.ref c0) A outer s H0 E).env.qual ++ "<lambda>")]) (hr : Room 14 (lawX P w K mg base f (.ref c0) A outer s H0 E).A) : SegP (lawX P w K mg base f (.ref c0) A outer s H0 E) 27 (PreN 9 T C CF scr) (LInv T scr) := by
  have C' := L.fc
  have cS := L.sc
  have Tx := L.T
  have msorted := L.srt
  obtain ⟨_, _, DP⟩ := L.pull
  obtain ⟨_, _, DA⟩ := L.any
  obtain ⟨_, _, DS⟩ := L.same
  obtain ⟨_, _, DNm⟩ := L.names
  obtain ⟨_, _, DMx⟩ := L.mixed
  obtain ⟨_, _, DQ⟩ := L.quot
  obtain ⟨_, _, DLf⟩ := L.leaf
  obtain ⟨_, _, DSo⟩ := L.so
  obtain ⟨_, _, DTr⟩ := L.trim
  obtain ⟨_, _, DOr⟩ := L.order
  obtain ⟨_, _, DOd⟩ := L.odd
  obtain ⟨_, _, DPl⟩ := L.plus
  obtain ⟨_, _, DCo⟩ := L.copies
  obtain ⟨_, _, MSs⟩ := L.srcs
  obtain ⟨_, _, MBs⟩ := L.boxs
  obtain ⟨_, _, MEq⟩ := L.eq
  obtain ⟨_, _, MEqS⟩ := L.eqS
  obtain ⟨_, _, MBool⟩ := L.bool
  obtain ⟨_, _, MBoolS⟩ := L.boolS
  obtain ⟨_, _, MRepr⟩ := L.repr
  obtain ⟨_, _, MF, MFB, ⟨_, kF1⟩, kF2⟩ := L.madeF
  obtain ⟨_, _, MSo, kSo⟩ := L.src
  obtain ⟨_, _, MBo, kBo⟩ := L.box
  obtain ⟨fI, fdI, d, dv, MS⟩ := L.made
  refine ⟨_, (pss_one (ps_if (pt_not (pt_val (pe_call DS.ok (hr.mono (by decide)) (by rfl) DS.m DS.kp DS.b .nil pass0 (pa_cons (LamX.pe_lamcall (X := lawX P w K mg base f (.ref c0) A outer s H0 E) (T := T) (TT := TWhy K [.ref U, .ref M', .ref NL]) (k := 10) (t := fun E => (tMakeK CF 0 ((["boxes", "sources"] : List Str).length) (spFormBad (spAreSrcG K C CF) (spAreBoxA K C CF) CF CI) (fun vs zs => vs ++ zs.reverse) E tNil (tCons (tOp (rIxT K) (tOp (rIxL K) (tVar 17) (tC (.int 3))) (tC (.int 1))) (tCons (tDisp [((tOp (rIxL K) (tVar 3) (tC (.int 1))), tVar 15)]) tNil)))) (by rfl) L.mW L.kW L.lkW L.hcW L.bW scWhy rfl (Or.inl rfl) (why_gives (hr.mono (by decide)) L.GFd L.bF L.kF L.mFd L.mU L.mM L.mN) TB rfl (by rw [hT]; exact List.mem_singleton.mpr rfl) (fun p hp _ => by rw [hT] at hp; rw [List.mem_singleton.mp hp]) (hr.mono (by decide)) (LamX.lamS_by (sc := defScope sLaw) (by decide +kernel)) rfl (fun _ _ _ _ _ => by rfl)
   (fun A outer s H E f c' hr2 => (pe_makeK0 (ks := ["boxes", "sources"]) MFB.mkF MFB.ok (hr2.mono (by decide)) (by rfl) MFB.m kF2 (passes_call (takes_of rfl rfl rfl rfl) fun _ _ _ _ h => h) (pk_cons (pe_ix (ixTK (K := K) rfl) (pe_ix (ixLK (K := K) rfl) (pv 17) pe_int (fun _ _ => rfl)) pe_int (fun _ _ => rfl)) (pk_cons (pe_disp (pps_cons (pe_ix (ixLK (K := K) rfl) (pv 3) pe_int (fun _ _ => rfl)) (pv 15) pps_nil) (by rfl) (by rfl) (by simp) (by decide)) pk_nil))))) (pa_cons (pe_tup (pa_cons pe_str (pa_cons (pe_tup pa_nil) pa_nil))) pa_nil)))))
 (pss_one (ps_ret pe_bl))
 pss_nil)), fun D σ H pre post => ?_⟩
  obtain ⟨x, v, so, y, lp, q4, qs, st, N, hlp, nlp, ql, q43, F4, v2, v8, v9, v10, v11, v12, v13, v14, v16, v18, v19, v20, v21, rfl⟩ := pre
  have hsz : 1000000 < sizeLine := by decide
  obtain ⟨w0, w1, w2, ew, nm0, nm1, nm2⟩ := three N
  have L1 : ∀ {H' : Hp}, K27 T C CF H' x v → H' x.l1 = some (.lst ([w0, w1, w2].map V.str)) := fun k => by rw [← ew]; exact k.r.l1
  refine ⟨st.k.tabs, fun H1 ext tabs1 => ?_⟩
  have B1 := Bag_ext st.k.bag ext
  have F4 := F4.mv st.k.bag B1 (Mv.ext ext)
  have st := st.mv (Mv.ext ext) B1 tabs1
  have hlp := ext _ _ hlp (fun _ z => nomatch z)
  obtain ⟨d4, h4, X4⟩ := F4
  refine ⟨_, rfl, lp, _, 3, .ref q4, rfl, rfl, SqL.of hlp, atI_nat (j := 3) (by rw [List.getElem?_map, q43]; rfl), q4, _, _, _, rfl, rfl, SqT.of h4, rfl, ?_⟩
  refine disp1 (k := Sum.inr w1) (fun H2 R s r => ⟨_, rfl, x.l1, _, 1, .str w1, rfl, rfl, SqL.of (s _ _ (L1 st.k)), atI_nat (j := 1) rfl, r⟩) (fun H2 R s r => ⟨_, rfl, r⟩) fun d5 H2 s2 g5 => ?_
  have X4 := X4.mv st.k.bag (st.k.bag.same s2) (Mv.same s2)
  have st := st.same s2
  have D5 := dany1 (CF := CF) g5 (.ser st.so) (fun z e => by cases e; have := nm1.l4; omega)
  refine ⟨rfl, rfl, ?_⟩
  intro sa sd hsa hsd sne
  have hs1 : upd H2 sd (.own sa) sa = none := by rw [upd_ne sne.symm]; exact hsa
  have s5 : Same H2 (upd (upd H2 sd (.own sa)) sa (.ins CF sd [])) := (same_upd hsd _).trans (same_upd hs1 _)
  have S5 : SrcA (upd (upd H2 sd (.own sa)) sa (.ins CF sd [])) C CF (.ref d5) true := .dict (D5.same s5) (by simp [srcB, nm1.b])
  have X5 := X4.mv st.k.bag (st.k.bag.same s5) (Mv.same s5)
  refine ⟨sa, .ref d5, .ref d4, rfl, .inr ⟨S5.arg, X5.arg⟩, fun d' H6 s6 hd hd' => ⟨"InvalidForm", [], ⟨CI, d', _, rfl, L.er.xf, L.er.at_, rfl, hd', rfl, .cInvalidForm⟩, L.er.ex, fun t2 t1 H7 s7 ht2 ht1 ht2' => ?_⟩⟩
  have k := st.k.same (s5.trans (s6.trans s7))
  refine ⟨(by show 0 ≤ sizeLine; decide), fun t3 ht3 => ?_⟩
  have s8 := same_upd ht3 (.tup ([] : List V))
  have g3 : upd H7 t3 (.tup ([] : List V)) t3 = some (.tup []) := upd_same
  have ht1 := s8 _ _ ht1
  have ht2' := s8 _ _ ht2'
  have k := k.same s8
  generalize upd H7 t3 (.tup ([] : List V)) = H8 at g3 ht1 ht2' k ⊢
  refine ⟨(by show 2 ≤ sizeLine; decide), fun t4 ht4 => ?_⟩
  have s9 := same_upd ht4 (.tup [V.str "InvalidForm", V.ref t3])
  have g4 : upd H8 t4 (.tup [V.str "InvalidForm", V.ref t3]) t4 = some (.tup [V.str "InvalidForm", V.ref t3]) := upd_same
  have ht1 := s9 _ _ ht1
  have ht2' := s9 _ _ ht2'
  have g3 := s9 _ _ g3
  have k := k.same s9
  generalize upd H8 t4 (.tup [V.str "InvalidForm", V.ref t3]) = H9 at g3 g4 ht1 ht2' k ⊢
  refine ⟨.ref t2, .ref t4, rfl, eqv_told 1 ht2' ht1 g4 g3 (by decide) (fun z hz => nomatch hz), fun H10 s10 => ⟨_, rfl, iteF ?_⟩⟩
  have k := k.same s10
  exact (post _ _ ⟨x.b, x.c, k.bag, k.tabs, _, _, _, _, _, _, _, _, _, _, _, _, _, _, _, _, _, _, _, _, rfl⟩).1
end
end
end Un
namespace Un
open PySem L2 TL
section
variable {P : Program} {w : World} {K : PySem.W.Frag} {mg : Str → Option Value} {base : Heap}
theorem vals_take {vs : List V} {us : List Value} (h : Vals vs us) : Vals (vs.take 1) (us.take 1) := by
  cases h with
  | nil => exact .nil
  | cons r t => exact .cons r .nil
theorem vals1n : Vals [V.non] [Value.none] := .cons rfl .nil
def zv : Vf := fun _ => v0
theorem zp0 (k : Key) : Zp (zv k) := fun _ => rfl
theorem none_made {C CF a dx : Addr} {H : Hp} {R : Hp → Prop} (ha : H a = none) (hdx : H dx = none) (ne : dx ≠ a) (h : ∀ H', Same H H' → FormN H H' C CF a [] zv → R H') : spFormI C CF [.ref a, .non, .non] (upd (upd H dx (.own a)) a (.ins CF dx [])) (fun v H2 => v = .non ∧ R H2) E0 :=
  form_made (U := []) (k1 := []) (k2 := []) (val := zv) ha hdx ne ⟨.inl ⟨rfl, rfl⟩, .inl ⟨rfl, rfl⟩, fun _ _ _ _ => rfl, fun _ _ _ _ => rfl, fun _ => frac0, by decide⟩ h
theorem srcl0 {ys : List Str} (S : SrcL [] zv ys) : ys = [] := List.eq_nil_iff_forall_not_mem.mpr fun z hz => (S.iff z).mp hz (zp0 _)
theorem boxl0 : BoxL [] zv [] := ⟨.nil, fun z => ⟨fun h => (by cases h), fun h => absurd (zp0 _) h⟩, List.nodup_nil, fun z h => (by cases h), fun z h => (by cases h), by decide⟩
theorem repr0 : reprF [] 0 = ("Form(-, 0 boxes)" : Str) := by decide +kernel
def spLawT (K : PySem.W.Frag) (P0 : Addr) : Sp := fun vs H Q _ => ∃ (a : Addr) (ns : List Int), vs = [.ref a] ∧ SqL K H a (ns.map V.int) ∧ ns.length ≤ 63 ∧ H P0 = some (.tbl #[]) ∧ ∀ H', Q (.bl true) H'
theorem ok_law {C CF CI g ff U M' NL f c0 P0 : Addr} {oc kV doc pm cdw ct : Value} {od an : Option Addr} {osl : Array (Option Value)} {fdF : FuncData} {oc1 kV1 doc1 pm1 ct1 : Value} {od1 an1 : Option Addr} {osl1 : Array (Option Value)}
    (lk : K.lookup f = some ⟨oc1, od1, .func (PySem.W.fnOf "law" "law" (defArgs sLaw) (defBody sLaw) (defScope sLaw) .none kV1 doc1 pm1 an1 (.ref c0) ct1), osl1⟩) (hcd : PySem.W.codeIn K (.ref c0) "law" = true) (L : LawD P w K mg base C CF CI g ff U M' NL oc kV doc pm cdw ct od an osl fdF) (TB : LamX.TabB base mg c0 P0) :
    FnOk P w K mg base CX0 15 f (PySem.W.fnOf "law" "law" (defArgs sLaw) (defBody sLaw) (defScope sLaw) .none kV1 doc1 pm1 an1 (.ref c0) ct1) ["_law_script"] (spLawT K P0) := by
  refine fn_of lk hcd scLaw (fun vs H Q E h => ?_) (fun A outer s H0 vs Q E hr h => ?_)
  · obtain ⟨a, ns, rfl, _⟩ := h
    rfl
  obtain ⟨scr, ns, rfl, Rr, hl, hP0, q⟩ := h
  obtain ⟨_, _, DBag⟩ := L.bag
  have C' := L.fc
  have cS := L.sc
  have Tx := L.T
  have msorted := L.srt
  obtain ⟨_, _, DP⟩ := L.pull
  obtain ⟨_, _, DA⟩ := L.any
  obtain ⟨_, _, DS⟩ := L.same
  obtain ⟨_, _, DNm⟩ := L.names
  obtain ⟨_, _, DMx⟩ := L.mixed
  obtain ⟨_, _, DQ⟩ := L.quot
  obtain ⟨_, _, DLf⟩ := L.leaf
  obtain ⟨_, _, DSo⟩ := L.so
  obtain ⟨_, _, DTr⟩ := L.trim
  obtain ⟨_, _, DOr⟩ := L.order
  obtain ⟨_, _, DOd⟩ := L.odd
  obtain ⟨_, _, DPl⟩ := L.plus
  obtain ⟨_, _, DCo⟩ := L.copies
  obtain ⟨_, _, MSs⟩ := L.srcs
  obtain ⟨_, _, MBs⟩ := L.boxs
  obtain ⟨_, _, MEq⟩ := L.eq
  obtain ⟨_, _, MEqS⟩ := L.eqS
  obtain ⟨_, _, MBool⟩ := L.bool
  obtain ⟨_, _, MBoolS⟩ := L.boolS
  obtain ⟨_, _, MRepr⟩ := L.repr
  obtain ⟨_, _, MF, MFB, ⟨_, kF1⟩, kF2⟩ := L.madeF
  obtain ⟨_, _, MSo, kSo⟩ := L.src
  obtain ⟨_, _, MBo, kBo⟩ := L.box
  obtain ⟨fI, fdI, d, dv, MS⟩ := L.made
  obtain ⟨T, hT⟩ : ∃ T : TL', T = [(P0, (lawX P w K mg base f (.ref c0) A outer s H0 E).env.qual ++ "<lambda>")] := ⟨_, rfl⟩
  obtain ⟨t, ht, hq⟩ : SegP (lawX P w K mg base f (.ref c0) A outer s H0 E) 0 (LInv T scr) (LInv T scr) := segA L TB hT hr (segB L TB hT hr (segC L TB hT hr (segD L TB hT hr (segE L TB hT hr (segF L TB hT hr (segG L TB hT hr (segH L TB hT hr (segI L TB hT hr (segJ L TB hT hr (segK L TB hT hr (segL L TB hT hr (segM L TB hT hr (segN L TB hT hr (segO L TB hT hr (segP L TB hT hr (segQ L TB hT hr))))))))))))))))
  refine ⟨_, PSs.nox (pss_cons (ps_set (i := 1) scLaw.nd rfl (by first | exact Or.inl rfl | exact Or.inr rfl) (pe_call DBag.ok (hr.mono (by decide)) (by rfl) DBag.m DBag.kp DBag.b .nil pass0 (pa_cons (pv 0) pa_nil)))
 (pss_cons (ps_for PassesOwn.never rfl (pi_range1 (by rfl) Tx.range (pa_cons pe_int pa_nil)) (pg_name (i := 2) scLaw.nd rfl (by first | exact Or.inl rfl | exact Or.inr rfl)) ht)
 (pss_one (ps_ret (pe_call DS.ok (hr.mono (by decide)) (by rfl) DS.m DS.kp DS.b .nil pass0 (pa_cons (pe_lst (pa_cons (pe_meth0 (pe_make0 MF.mkF MF.ok (hr.mono (by decide)) (by rfl) MF.m MF.b0 vals00 pass0) C'.cl MSs.mt MSs.ok (hr.mono (by decide)) MSs.b .nil pass0) (pa_cons (pe_fld (pe_make MF.mkF MF.ok (hr.mono (by decide)) (by rfl) MF.m MF.b1 vals1n pass0 (pa_cons pe_non pa_nil)) rfl) (pa_cons (pe_cmpR (OwnX.op_eqO3 MEq L.hsub (hr.mono (by decide))) (pe_makeK0 (ks := ["boxes"]) MF.mkF MF.ok (hr.mono (by decide)) (by rfl) MF.m kF1 pass0 (pk_cons pe_non pk_nil)) (pe_make0 MF.mkF MF.ok (hr.mono (by decide)) (by rfl) MF.m MF.b0 vals00 pass0) (nomark _)) (pa_cons (pe_callB (OwnX.call_reprO MRepr (hr.mono (by decide))) (by rfl) L.rep (by decide +kernel) (pa_cons (pe_make0 MF.mkF MF.ok (hr.mono (by decide)) (by rfl) MF.m MF.b0 vals00 pass0) pa_nil)) pa_nil))))) (pa_cons (pe_lst (pa_cons (pe_lst pa_nil) (pa_cons pe_non (pa_cons pe_bl (pa_cons pe_str pa_nil))))) pa_nil))))))), ?_⟩
  refine ⟨_, rfl, scr, ns, rfl, Rr, hl, fun b c H1 s1 hb hc B => ?_⟩
  have t1 : LamX.Tabs T H1 := fun p hp => by
    rw [hT] at hp
    rw [List.mem_singleton.mp hp]
    exact LamX.TabS.nil (s1 _ _ hP0)
  refine ⟨4, rfl, by decide, by decide, ?_⟩
  refine for_it (walk_range (lo := 0)) (fun i σ H2 => LInv T scr σ H2) ⟨b, c, B, t1, none, none, none, none, none, none, none, none, none, none, none, none, none, none, none, none, none, none, none, none, rfl⟩ (fun _ _ _ _ _ => trivial) ?_ ?_
  · rintro i v σ H2 H3 hi ⟨b, c, B, tb, v2, v3, v4, v5, v6, v7, v8, v9, v10, v11, v12, v13, v14, v15, v16, v17, v18, v19, v20, v21, rfl⟩ ⟨rfl, rfl⟩
    exact hq _ _ H3 ⟨b, c, B, tb, _, _, _, _, _, _, _, _, _, _, _, _, _, _, _, _, _, _, _, _, rfl⟩ fun _ _ z => ⟨z, z⟩
  rintro σ H2 ⟨b, c, B, tb, v2, v3, v4, v5, v6, v7, v8, v9, v10, v11, v12, v13, v14, v15, v16, v17, v18, v19, v20, v21, rfl⟩
  clear B tb t1 hq
  have hsz : 1000000 < sizeLine := by decide
  -- no sources
  intro a1 x1 ha1 hx1 ne1
  refine none_made (C := C) ha1 hx1 ne1 fun H3 s3 N3 => ?_
  obtain ⟨dx, d1, d2, o, q1, q2, R⟩ := N3.v
  refine ⟨a1, dx, _, rfl, R.ha, rfl, a1, [], zv, rfl, N3.v, fun ls ys H4 s4 hls h4 S4 => ?_⟩
  rw [srcl0 S4] at h4
  -- no order
  intro a2 x2 ha2 hx2 ne2
  refine none_made (C := C) ha2 hx2 ne2 fun H5 s5 N5 => ?_
  have h4 := s5 _ _ h4
  obtain ⟨dx, d1, d2, o, q1, q2, R⟩ := N5.v
  obtain rfl : o = .non := by
    rcases R.og with ⟨e, _⟩ | ⟨m, _, ⟨kk, _, hz, _⟩, _⟩
    · exact e
    · exact absurd (zp0 kk) hz
  refine ⟨a2, CF, dx, _, _, rfl, R.ha, C'.cl, C'.o, rfl, ?_⟩
  -- equal
  refine ⟨rfl, rfl, ?_⟩
  intro a3 x3 ha3 hx3 ne3
  refine none_made (C := C) ha3 hx3 ne3 fun H6 s6 N6 => ?_
  have h4 := s6 _ _ h4
  intro a4 x4 ha4 hx4 ne4
  refine none_made (C := C) ha4 hx4 ne4 fun H7 s7 N7 => ?_
  refine eqF_rd N6.v N7 s7 fun r H8 s8 hr8 => ?_
  obtain rfl : r = true := hr8.mpr fun kk _ _ => rfl
  have h4 := s8 _ _ (s7 _ _ h4)
  -- repr
  intro a5 x5 ha5 hx5 ne5
  refine none_made (C := C) ha5 hx5 ne5 fun H9 s9 N9 => ?_
  have h4 := s9 _ _ h4
  obtain ⟨dx, fs, h9⟩ := N9.v.ins
  refine ⟨a5, dx, fs, rfl, h9, a5, [], zv, rfl, N9.v, fun zs n H10 s10 SL hn => ⟨_, rfl, ?_⟩⟩
  have h4 := s10 _ _ h4
  obtain rfl := srcl0 SL
  obtain rfl : n = 0 := (hn [] boxl0).symm
  rw [repr0]
  refine ⟨(by show 4 ≤ sizeLine; decide), fun p1 hp1 => ?_⟩
  have s11 := same_upd hp1 (.lst [V.ref ls, V.non, V.bl true, V.str "Form(-, 0 boxes)"])
  have g1 : upd H10 p1 (.lst [V.ref ls, V.non, V.bl true, V.str "Form(-, 0 boxes)"]) p1 = some (.lst [V.ref ls, V.non, V.bl true, V.str "Form(-, 0 boxes)"]) := upd_same
  have h4 := s11 _ _ h4
  generalize upd H10 p1 (.lst [V.ref ls, V.non, V.bl true, V.str "Form(-, 0 boxes)"]) = H11 at g1 h4 ⊢
  refine ⟨(by show 0 ≤ sizeLine; decide), fun e he => ?_⟩
  have s12 := same_upd he (.lst [])
  have ge : upd H11 e (.lst []) e = some (.lst []) := upd_same
  have h4 := s12 _ _ h4
  have g1 := s12 _ _ g1
  generalize upd H11 e (.lst []) = H12 at g1 h4 ge ⊢
  refine ⟨(by show 4 ≤ sizeLine; decide), fun p2 hp2 => ?_⟩
  have s13 := same_upd hp2 (.lst [V.ref e, V.non, V.bl true, V.str "Form(-, 0 boxes)"])
  have g2 : upd H12 p2 (.lst [V.ref e, V.non, V.bl true, V.str "Form(-, 0 boxes)"]) p2 = some (.lst [V.ref e, V.non, V.bl true, V.str "Form(-, 0 boxes)"]) := upd_same
  have h4 := s13 _ _ h4
  have g1 := s13 _ _ g1
  have ge := s13 _ _ ge
  generalize upd H12 p2 (.lst [V.ref e, V.non, V.bl true, V.str "Form(-, 0 boxes)"]) = H13 at g1 h4 ge g2 ⊢
  exact ⟨.ref p1, .ref p2, rfl, eqv_lst g1 g2 ⟨eqv_lst (n := 1) h4 ge trivial (by decide), .leaf (by trivial) _, .leaf (by trivial) _, .leaf (by trivial) _, trivial⟩ (by show 4 ≤ 100000; decide), fun H14 s14 => q H14⟩
end
end Un
namespace Un
open PySem L2 TL
section
variable {P : Program} {w : World} {K : PySem.W.Frag} {mg : Str → Option Value} {base : Heap}
theorem ok_isint2 {f : Addr} {fd : FuncData} (F : Fun K "is_integer" "is_integer" sIsInteger f fd) (misi : mg "isinstance" = none) (mint : mg "int" = none) (mbool : mg "bool" = none) : FnOk P w K mg base CX0 1 f fd ["value"] (spInteger K) := by
  refine F.ok scInteger (fun vs H Q E h => ?_) (fun cdv A outer s H vs Q E hr h => ?_)
  · obtain ⟨x, t, bi, bb, rfl, _⟩ := h
    rfl
  obtain ⟨x, t, bi, bb, rfl, ty, h1, h2, q⟩ := h
  refine ⟨_, pss_one (ps_ret (pe_and (pe_callB call_isi (by rfl) misi (by decide +kernel) (pa_cons (pv 0) (pa_cons (pe_bltn (v := .ty "int") (by rfl) mint (by decide +kernel) rfl) pa_nil)))
    (pe_one (pe_not (pe_callB call_isi (by rfl) misi (by decide +kernel) (pa_cons (pv 0) (pa_cons (pe_bltn (v := .ty "bool") (by rfl) mbool (by decide +kernel) rfl) pa_nil))))))), ?_⟩
  refine ⟨_, rfl, _, _, _, _, bi, rfl, .ty _, ty, kit_ty h1, _, rfl, ?_⟩
  cases bi with
  | true => exact iteT ⟨_, rfl, _, _, _, _, bb, rfl, .ty _, ty, kit_ty h2, _, rfl, q⟩
  | false => exact iteF q
end
section
/-! ### the classes as the top has made them -/
section
variable {C D N : Addr} {nm q : Str} {bs bm sub : List Value} {sn : List Str} {ab : Bool} {col : Option Bool} {dd : Option Addr} {k0 k1 k2 k3 k5 : Option Value} {nid : String}
theorem cl_cls (l : K.lookup C = some (excClassObj nm q C N bs bm true sn sub ab col dd k0 k1 k2 k3 k5 nid)) : PySem.W.clsIn K C = some { name := nm, bases := bs, mro := .ref C :: bm, ns := N, qualname := q, hasDict := true, slotNames := sn, subclasses := sub, abstract := ab, collection := col, hasDel := false } := by
  unfold PySem.W.clsIn; rw [l] <;> rfl
theorem cl_dict (l : K.lookup C = some (excClassObj nm q C N bs bm true sn sub ab col dd k0 k1 k2 k3 k5 nid)) : PySem.W.hasDictIn K C = true := by unfold PySem.W.hasDictIn; rw [cl_cls l]; rfl
theorem cl_type (l : K.lookup C = some (excClassObj nm q C N bs bm true sn sub ab col dd k0 k1 k2 k3 k5 nid)) : PySem.W.typeIn K (.ref C) = some (.type "type") := by
  show (K.lookup C).map (·.cls) = _
  rw [l]; rfl
theorem cl_mro (l : K.lookup C = some (excClassObj nm q C N bs bm true sn sub ab col dd k0 k1 k2 k3 k5 nid)) (b : Value) : PySem.W.mroIn K C b = some ((Value.ref C :: bm).contains b) := by
  unfold PySem.W.mroIn; rw [cl_cls l]; rfl
end
/-- what a class of the errors is, as the top has written it -/
def CF (K : PySem.W.Frag) (C : Addr) (bm : List Value) (nid : String) (attrs : List Str) : Prop :=
  (∃ nm q N bs sn sub ab col dd k0 k1 k2 k3 k5, K.lookup C = some (excClassObj nm q C N bs bm true sn sub ab col dd k0 k1 k2 k3 k5 nid)) ∧ PySem.W.findIn K (.ref C) "__getattribute__" = some (some (.builtin "BaseException.__getattribute__")) ∧ PySem.W.findIn K (.ref C) "__getattr__" = some none ∧
  PySem.W.findIn K (.ref C) "__class__" = some (some (.builtin "object.__class__")) ∧ PySem.W.findIn K (.ref C) "code" = some none ∧ (∀ f ∈ attrs, PySem.W.findIn K (.ref C) f = some none)
def CX (K : PySem.W.Frag) (C f : Addr) (x qn : Str) (st : Stmt) (bm : List Value) (nid : String) (attrs : List Str) : Prop :=
  PySem.W.nsIn K mainGlobals x = some (some (.ref C)) ∧ CF K C bm nid attrs ∧ PySem.W.findIn K (.ref C) "__setattr__" = some (some (.builtin "object.__setattr__")) ∧ PySem.W.keepIn K (.ref C) = true ∧ PySem.W.findIn K (.ref C) "__init__" = some (some (.ref f)) ∧
  PySem.W.typeIn K (.ref f) = some (.type "function") ∧ ∃ fd, Fun K "__init__" qn st f fd
section
variable {C f N : Addr} {x qn nm q : Str} {st : Stmt} {bs bm sub : List Value} {sn : List Str} {ab : Bool} {col : Option Bool} {dd od an : Option Addr} {k0 k1 k2 k3 k5 : Option Value} {nid : String} {g h : Str} {oc kV doc pm cd ct : Value} {osl : Array (Option Value)}
theorem cx0 (a1 : PySem.W.nsIn K mainGlobals x = some (some (.ref C))) (a2 : K.lookup C = some (excClassObj nm q C N bs bm true sn sub ab col dd k0 k1 k2 k3 k5 nid)) (a3 : PySem.W.findIn K (.ref C) "__getattribute__" = some (some (.builtin "BaseException.__getattribute__"))) (a4 : PySem.W.findIn K (.ref C) "__getattr__" = some none)
    (a5 : PySem.W.findIn K (.ref C) "__class__" = some (some (.builtin "object.__class__"))) (a6 : PySem.W.findIn K (.ref C) "code" = some none) (a7 : PySem.W.findIn K (.ref C) "__setattr__" = some (some (.builtin "object.__setattr__"))) (a8 : PySem.W.keepIn K (.ref C) = true) (a9 : PySem.W.findIn K (.ref C) "__init__" = some (some (.ref f)))
    (b1 : PySem.W.typeIn K (.ref f) = some (.type "function")) (b2 : K.lookup f = some ⟨oc, od, .func (PySem.W.fnOf "__init__" qn (defArgs st) (defBody st) (defScope st) .none kV doc pm an cd ct), osl⟩) (b3 : PySem.W.codeIn K cd qn = true) (b4 : PySem.W.keepIn K (.ref f) = true) : CX K C f x qn st bm nid [] :=
  ⟨a1, ⟨⟨_, _, _, _, _, _, _, _, _, _, _, _, _, _, a2⟩, a3, a4, a5, a6, fun f hf => nomatch hf⟩, a7, a8, a9, b1, _, fun_mk (st := st) b2 b3 b4⟩
end
theorem CF.oex {C : Addr} {bm tail : List Value} {B nid iid : String} {attrs : List Str} (c : CF K C bm nid attrs) (FB : ExcBaseFacts B nid iid tail) (TO : XV.TailOk tail) (hb : XV.refsT tail bm = true) (hbe : bm.contains (.type "BaseException") = true)
    (sa : PySem.W.findIn K (.ref C) "__setattr__" = some (some (.builtin "object.__setattr__"))) (kC : PySem.W.keepIn K (.ref C) = true) : OexG K C := by
  obtain ⟨⟨nm, q, N, bs, sn, sub, ab, col, dd, k0, k1, k2, k3, k5, l⟩, _⟩ := c
  refine ⟨⟨B, nid, iid, tail, nm, q, N, bs, bm, sn, sub, ab, col, dd, k0, k1, k2, k3, k5, FB, TO, l, hb⟩, sa, ?_, cl_type l, kC⟩
  show PySem.W.mroIn K C _ = _
  rw [cl_mro l, List.contains_cons, hbe, Bool.or_true]
/-! ### what the top has written, the head -/
open XV
theorem all_mk {l : PySem.W.OpenLaw} {w : World} {K : PySem.W.Frag} {h : Heap} {mg : Str → Option Value} {fa : Addr} (X : K.In h) (G : h.Ns mainGlobals mg) (hfa : mg "law" = some (.ref fa))
    {f1 : Addr}
    {od1 an1 : Option Addr} {sl1 : Array (Option Value)} {oc1 kV1 dc1 pm1 cd1 ct1 : Value}
    {f2 : Addr}
    {od2 an2 : Option Addr} {sl2 : Array (Option Value)} {oc2 kV2 dc2 pm2 cd2 ct2 : Value}
    {f3 : Addr}
    {od3 an3 : Option Addr} {sl3 : Array (Option Value)} {oc3 kV3 dc3 pm3 cd3 ct3 : Value}
    {f4 : Addr}
    {od4 an4 : Option Addr} {sl4 : Array (Option Value)} {oc4 kV4 dc4 pm4 cd4 ct4 : Value}
    {f5 : Addr}
    {od5 an5 : Option Addr} {sl5 : Array (Option Value)} {oc5 kV5 dc5 pm5 cd5 ct5 : Value}
    {f6 : Addr}
    {od6 an6 : Option Addr} {sl6 : Array (Option Value)} {oc6 kV6 dc6 pm6 cd6 ct6 : Value}
    {f7 : Addr}
    {od7 an7 : Option Addr} {sl7 : Array (Option Value)} {oc7 kV7 dc7 pm7 cd7 ct7 : Value}
    {f8 : Addr}
    {od8 an8 : Option Addr} {sl8 : Array (Option Value)} {oc8 kV8 dc8 pm8 cd8 ct8 : Value}
    {f9 : Addr}
    {od9 an9 : Option Addr} {sl9 : Array (Option Value)} {oc9 kV9 dc9 pm9 cd9 ct9 : Value}
    {f10 : Addr}
    {od10 an10 : Option Addr} {sl10 : Array (Option Value)} {oc10 kV10 dc10 pm10 cd10 ct10 : Value}
    {f11 : Addr}
    {od11 an11 : Option Addr} {sl11 : Array (Option Value)} {oc11 kV11 dc11 pm11 cd11 ct11 : Value}
    {f12 : Addr}
    {od12 an12 : Option Addr} {sl12 : Array (Option Value)} {oc12 kV12 dc12 pm12 cd12 ct12 : Value}
    {f13 : Addr}
    {od13 an13 : Option Addr} {sl13 : Array (Option Value)} {oc13 kV13 dc13 pm13 cd13 ct13 : Value}
    {f14 : Addr}
    {od14 an14 : Option Addr} {sl14 : Array (Option Value)} {oc14 kV14 dc14 pm14 cd14 ct14 : Value}
    {f15 : Addr}
    {od15 an15 : Option Addr} {sl15 : Array (Option Value)} {oc15 kV15 dc15 pm15 cd15 ct15 : Value}
    {f16 : Addr}
    {od16 an16 : Option Addr} {sl16 : Array (Option Value)} {oc16 kV16 dc16 pm16 cd16 ct16 : Value}
    {f17 : Addr}
    {od17 an17 : Option Addr} {sl17 : Array (Option Value)} {oc17 kV17 dc17 pm17 cd17 ct17 : Value}
    {f18 : Addr}
    {od18 an18 : Option Addr} {sl18 : Array (Option Value)} {oc18 kV18 dc18 pm18 cd18 ct18 : Value}
    {f19 : Addr}
    {od19 an19 : Option Addr} {sl19 : Array (Option Value)} {oc19 kV19 dc19 pm19 cd19 ct19 : Value}
    {f20 : Addr}
    {od20 an20 : Option Addr} {sl20 : Array (Option Value)} {oc20 kV20 dc20 pm20 cd20 ct20 : Value}
    {f21 : Addr}
    {od21 an21 : Option Addr} {sl21 : Array (Option Value)} {oc21 kV21 dc21 pm21 cd21 ct21 : Value}
    {f22 : Addr}
    {od22 an22 : Option Addr} {sl22 : Array (Option Value)} {oc22 kV22 dc22 pm22 cd22 ct22 : Value}
    {f23 : Addr}
    {od23 an23 : Option Addr} {sl23 : Array (Option Value)} {oc23 kV23 dc23 pm23 cd23 ct23 : Value}
    {f24 : Addr}
    {od24 an24 : Option Addr} {sl24 : Array (Option Value)} {oc24 kV24 dc24 pm24 cd24 ct24 : Value}
    {f25 : Addr}
    {od25 an25 : Option Addr} {sl25 : Array (Option Value)} {oc25 kV25 dc25 pm25 cd25 ct25 : Value}
    {f26 : Addr}
    {od26 an26 : Option Addr} {sl26 : Array (Option Value)} {oc26 kV26 dc26 pm26 cd26 ct26 : Value}
    {f27 : Addr}
    {od27 an27 : Option Addr} {sl27 : Array (Option Value)} {oc27 kV27 dc27 pm27 cd27 ct27 : Value}
    {f28 : Addr}
    {od28 an28 : Option Addr} {sl28 : Array (Option Value)} {oc28 kV28 dc28 pm28 cd28 ct28 : Value}
    {f29 : Addr}
    {od29 an29 : Option Addr} {sl29 : Array (Option Value)} {oc29 kV29 dc29 pm29 cd29 ct29 : Value}
    {f30 : Addr}
    {od30 an30 : Option Addr} {sl30 : Array (Option Value)} {oc30 kV30 dc30 pm30 cd30 ct30 : Value}
    {f31 : Addr}
    {od31 an31 : Option Addr} {sl31 : Array (Option Value)} {oc31 kV31 dc31 pm31 cd31 ct31 : Value}
    {f32 : Addr}
    {od32 an32 : Option Addr} {sl32 : Array (Option Value)} {oc32 kV32 dc32 pm32 cd32 ct32 : Value}
    {f33 : Addr}
    {od33 an33 : Option Addr} {sl33 : Array (Option Value)} {oc33 kV33 dc33 pm33 cd33 ct33 : Value}
    {f34 : Addr}
    {od34 an34 : Option Addr} {sl34 : Array (Option Value)} {oc34 kV34 dc34 pm34 cd34 ct34 : Value}
    {f35 : Addr}
    {od35 an35 : Option Addr} {sl35 : Array (Option Value)} {oc35 kV35 dc35 pm35 cd35 ct35 : Value}
    {f36 : Addr}
    {od36 an36 : Option Addr} {sl36 : Array (Option Value)} {oc36 kV36 dc36 pm36 cd36 ct36 : Value}
    {f37 : Addr}
    {od37 an37 : Option Addr} {sl37 : Array (Option Value)} {oc37 kV37 dc37 pm37 cd37 ct37 : Value}
    {f38 : Addr}
    {od38 an38 : Option Addr} {sl38 : Array (Option Value)} {oc38 kV38 dc38 pm38 cd38 ct38 : Value}
    {fl c0 P0 : Addr} {odl anl : Option Addr} {sll : Array (Option Value)} {ocl kVl dcl pml ctl : Value}
    {tk_SPARE_BITS : Tok}
    {tk_MOST_BEATS : Tok}
    {tk_LETTERS : Tok}
    {tk_LONGEST_NAME : Tok}
    {CS : Addr} {cdtCS : ClassData}
    {fI TI dT : Addr} {odI anI tdI tdD : Option Addr} {slI tsI tsD : Array (Option Value)} {ocI kVI dcI pmI cdI ctI tcI : Value} {tnI tnD : Nat} {tkD : Tok}
    {fS0 : Addr} {odS0 anS0 : Option Addr} {slS0 : Array (Option Value)} {ocS0 kVS0 dcS0 pmS0 cdS0 ctS0 : Value}
    {fS1 : Addr} {odS1 anS1 : Option Addr} {slS1 : Array (Option Value)} {ocS1 kVS1 dcS1 pmS1 cdS1 ctS1 : Value}
    {fS2 : Addr} {odS2 anS2 : Option Addr} {slS2 : Array (Option Value)} {ocS2 kVS2 dcS2 pmS2 cdS2 ctS2 : Value}
    {fS3 : Addr} {odS3 anS3 : Option Addr} {slS3 : Array (Option Value)} {ocS3 kVS3 dcS3 pmS3 cdS3 ctS3 : Value}
    {U MM NL eZ CZ : Addr}
    {CF : Addr} {cdtCF : ClassData}
    {fIF TIF : Addr} {odIF anIF tdIF : Option Addr} {slIF tsIF : Array (Option Value)} {ocIF kVIF dcIF pmIF cdIF ctIF tcIF : Value} {tnIF : Nat}
    {fG0 : Addr} {odG0 anG0 : Option Addr} {slG0 : Array (Option Value)} {ocG0 kVG0 dcG0 pmG0 cdG0 ctG0 : Value}
    {fG1 : Addr} {odG1 anG1 : Option Addr} {slG1 : Array (Option Value)} {ocG1 kVG1 dcG1 pmG1 cdG1 ctG1 : Value}
    {fG2 : Addr} {odG2 anG2 : Option Addr} {slG2 : Array (Option Value)} {ocG2 kVG2 dcG2 pmG2 cdG2 ctG2 : Value}
    {fG3 : Addr} {odG3 anG3 : Option Addr} {slG3 : Array (Option Value)} {ocG3 kVG3 dcG3 pmG3 cdG3 ctG3 : Value}
    {fG4 : Addr} {odG4 anG4 : Option Addr} {slG4 : Array (Option Value)} {ocG4 kVG4 dcG4 pmG4 cdG4 ctG4 : Value}
    {fG5 : Addr} {odG5 anG5 : Option Addr} {slG5 : Array (Option Value)} {ocG5 kVG5 dcG5 pmG5 cdG5 ctG5 : Value}
    {fG6 : Addr} {odG6 anG6 : Option Addr} {slG6 : Array (Option Value)} {ocG6 kVG6 dcG6 pmG6 cdG6 ctG6 : Value}
    (a1 : PySem.W.nsIn K mainGlobals "is_integer" = some (some (.ref f1)))
    (l1 : K.lookup f1 = some ⟨oc1, od1, .func (PySem.W.fnOf "is_integer" "is_integer" (defArgs sIsInteger) (defBody sIsInteger) (defScope sIsInteger) .none kV1 dc1 pm1 an1 cd1 ct1), sl1⟩)
    (c1 : PySem.W.codeIn K cd1 "is_integer" = true)
    (k1 : PySem.W.keepIn K (.ref f1) = true)
    (a2 : PySem.W.nsIn K mainGlobals "is_number" = some (some (.ref f2)))
    (l2 : K.lookup f2 = some ⟨oc2, od2, .func (PySem.W.fnOf "is_number" "is_number" (defArgs sIsNumber) (defBody sIsNumber) (defScope sIsNumber) .none kV2 dc2 pm2 an2 cd2 ct2), sl2⟩)
    (c2 : PySem.W.codeIn K cd2 "is_number" = true)
    (k2 : PySem.W.keepIn K (.ref f2) = true)
    (a3 : PySem.W.nsIn K mainGlobals "trimmed" = some (some (.ref f3)))
    (l3 : K.lookup f3 = some ⟨oc3, od3, .func (PySem.W.fnOf "trimmed" "trimmed" (defArgs sTrimmed) (defBody sTrimmed) (defScope sTrimmed) .none kV3 dc3 pm3 an3 cd3 ct3), sl3⟩)
    (c3 : PySem.W.codeIn K cd3 "trimmed" = true)
    (k3 : PySem.W.keepIn K (.ref f3) = true)
    (a4 : PySem.W.nsIn K mainGlobals "order_of" = some (some (.ref f4)))
    (l4 : K.lookup f4 = some ⟨oc4, od4, .func (PySem.W.fnOf "order_of" "order_of" (defArgs sOrderOf) (defBody sOrderOf) (defScope sOrderOf) .none kV4 dc4 pm4 an4 cd4 ct4), sl4⟩)
    (c4 : PySem.W.codeIn K cd4 "order_of" = true)
    (k4 : PySem.W.keepIn K (.ref f4) = true)
    (a5 : PySem.W.nsIn K mainGlobals "quotient_of" = some (some (.ref f5)))
    (l5 : K.lookup f5 = some ⟨oc5, od5, .func (PySem.W.fnOf "quotient_of" "quotient_of" (defArgs sQuotientOf) (defBody sQuotientOf) (defScope sQuotientOf) .none kV5 dc5 pm5 an5 cd5 ct5), sl5⟩)
    (c5 : PySem.W.codeIn K cd5 "quotient_of" = true)
    (k5 : PySem.W.keepIn K (.ref f5) = true)
    (a6 : PySem.W.nsIn K mainGlobals "root_bits" = some (some (.ref f6)))
    (l6 : K.lookup f6 = some ⟨oc6, od6, .func (PySem.W.fnOf "root_bits" "root_bits" (defArgs sRootBits) (defBody sRootBits) (defScope sRootBits) .none kV6 dc6 pm6 an6 cd6 ct6), sl6⟩)
    (c6 : PySem.W.codeIn K cd6 "root_bits" = true)
    (k6 : PySem.W.keepIn K (.ref f6) = true)
    (a7 : PySem.W.nsIn K mainGlobals "value_at" = some (some (.ref f7)))
    (l7 : K.lookup f7 = some ⟨oc7, od7, .func (PySem.W.fnOf "value_at" "value_at" (defArgs sValueAt) (defBody sValueAt) (defScope sValueAt) .none kV7 dc7 pm7 an7 cd7 ct7), sl7⟩)
    (c7 : PySem.W.codeIn K cd7 "value_at" = true)
    (k7 : PySem.W.keepIn K (.ref f7) = true)
    (a8 : PySem.W.nsIn K mainGlobals "digits_of" = some (some (.ref f8)))
    (l8 : K.lookup f8 = some ⟨oc8, od8, .func (PySem.W.fnOf "digits_of" "digits_of" (defArgs sDigitsOf) (defBody sDigitsOf) (defScope sDigitsOf) .none kV8 dc8 pm8 an8 cd8 ct8), sl8⟩)
    (c8 : PySem.W.codeIn K cd8 "digits_of" = true)
    (k8 : PySem.W.keepIn K (.ref f8) = true)
    (a9 : PySem.W.nsIn K mainGlobals "begun_with_one" = some (some (.ref f9)))
    (l9 : K.lookup f9 = some ⟨oc9, od9, .func (PySem.W.fnOf "begun_with_one" "begun_with_one" (defArgs sBegunWithOne) (defBody sBegunWithOne) (defScope sBegunWithOne) .none kV9 dc9 pm9 an9 cd9 ct9), sl9⟩)
    (c9 : PySem.W.codeIn K cd9 "begun_with_one" = true)
    (k9 : PySem.W.keepIn K (.ref f9) = true)
    (a10 : PySem.W.nsIn K mainGlobals "cancelled" = some (some (.ref f10)))
    (l10 : K.lookup f10 = some ⟨oc10, od10, .func (PySem.W.fnOf "cancelled" "cancelled" (defArgs sCancelled) (defBody sCancelled) (defScope sCancelled) .none kV10 dc10 pm10 an10 cd10 ct10), sl10⟩)
    (c10 : PySem.W.codeIn K cd10 "cancelled" = true)
    (k10 : PySem.W.keepIn K (.ref f10) = true)
    (a11 : PySem.W.nsIn K mainGlobals "reduced" = some (some (.ref f11)))
    (l11 : K.lookup f11 = some ⟨oc11, od11, .func (PySem.W.fnOf "reduced" "reduced" (defArgs sReduced) (defBody sReduced) (defScope sReduced) .none kV11 dc11 pm11 an11 cd11 ct11), sl11⟩)
    (c11 : PySem.W.codeIn K cd11 "reduced" = true)
    (k11 : PySem.W.keepIn K (.ref f11) = true)
    (a12 : PySem.W.nsIn K mainGlobals "is_row" = some (some (.ref f12)))
    (l12 : K.lookup f12 = some ⟨oc12, od12, .func (PySem.W.fnOf "is_row" "is_row" (defArgs sIsRow) (defBody sIsRow) (defScope sIsRow) .none kV12 dc12 pm12 an12 cd12 ct12), sl12⟩)
    (c12 : PySem.W.codeIn K cd12 "is_row" = true)
    (k12 : PySem.W.keepIn K (.ref f12) = true)
    (a13 : PySem.W.nsIn K mainGlobals "is_name" = some (some (.ref f13)))
    (l13 : K.lookup f13 = some ⟨oc13, od13, .func (PySem.W.fnOf "is_name" "is_name" (defArgs sIsName) (defBody sIsName) (defScope sIsName) .none kV13 dc13 pm13 an13 cd13 ct13), sl13⟩)
    (c13 : PySem.W.codeIn K cd13 "is_name" = true)
    (k13 : PySem.W.keepIn K (.ref f13) = true)
    (a14 : PySem.W.nsIn K mainGlobals "are_sources" = some (some (.ref f14)))
    (l14 : K.lookup f14 = some ⟨oc14, od14, .func (PySem.W.fnOf "are_sources" "are_sources" (defArgs sAreSources) (defBody sAreSources) (defScope sAreSources) .none kV14 dc14 pm14 an14 cd14 ct14), sl14⟩)
    (c14 : PySem.W.codeIn K cd14 "are_sources" = true)
    (k14 : PySem.W.keepIn K (.ref f14) = true)
    (a15 : PySem.W.nsIn K mainGlobals "are_boxes" = some (some (.ref f15)))
    (l15 : K.lookup f15 = some ⟨oc15, od15, .func (PySem.W.fnOf "are_boxes" "are_boxes" (defArgs sAreBoxes) (defBody sAreBoxes) (defScope sAreBoxes) .none kV15 dc15 pm15 an15 cd15 ct15), sl15⟩)
    (c15 : PySem.W.codeIn K cd15 "are_boxes" = true)
    (k15 : PySem.W.keepIn K (.ref f15) = true)
    (a16 : PySem.W.nsIn K mainGlobals "not_zero" = some (some (.ref f16)))
    (l16 : K.lookup f16 = some ⟨oc16, od16, .func (PySem.W.fnOf "not_zero" "not_zero" (defArgs sNotZero) (defBody sNotZero) (defScope sNotZero) .none kV16 dc16 pm16 an16 cd16 ct16), sl16⟩)
    (c16 : PySem.W.codeIn K cd16 "not_zero" = true)
    (k16 : PySem.W.keepIn K (.ref f16) = true)
    (a17 : PySem.W.nsIn K mainGlobals "_law_bag" = some (some (.ref f17)))
    (l17 : K.lookup f17 = some ⟨oc17, od17, .func (PySem.W.fnOf "_law_bag" "_law_bag" (defArgs sBag) (defBody sBag) (defScope sBag) .none kV17 dc17 pm17 an17 cd17 ct17), sl17⟩)
    (c17 : PySem.W.codeIn K cd17 "_law_bag" = true)
    (k17 : PySem.W.keepIn K (.ref f17) = true)
    (a18 : PySem.W.nsIn K mainGlobals "_law_pull" = some (some (.ref f18)))
    (l18 : K.lookup f18 = some ⟨oc18, od18, .func (PySem.W.fnOf "_law_pull" "_law_pull" (defArgs sPull) (defBody sPull) (defScope sPull) .none kV18 dc18 pm18 an18 cd18 ct18), sl18⟩)
    (c18 : PySem.W.codeIn K cd18 "_law_pull" = true)
    (k18 : PySem.W.keepIn K (.ref f18) = true)
    (a19 : PySem.W.nsIn K mainGlobals "_law_any" = some (some (.ref f19)))
    (l19 : K.lookup f19 = some ⟨oc19, od19, .func (PySem.W.fnOf "_law_any" "_law_any" (defArgs sAny) (defBody sAny) (defScope sAny) .none kV19 dc19 pm19 an19 cd19 ct19), sl19⟩)
    (c19 : PySem.W.codeIn K cd19 "_law_any" = true)
    (k19 : PySem.W.keepIn K (.ref f19) = true)
    (a20 : PySem.W.nsIn K mainGlobals "_law_same" = some (some (.ref f20)))
    (l20 : K.lookup f20 = some ⟨oc20, od20, .func (PySem.W.fnOf "_law_same" "_law_same" (defArgs sSame) (defBody sSame) (defScope sSame) .none kV20 dc20 pm20 an20 cd20 ct20), sl20⟩)
    (c20 : PySem.W.codeIn K cd20 "_law_same" = true)
    (k20 : PySem.W.keepIn K (.ref f20) = true)
    (a21 : PySem.W.nsIn K mainGlobals "_law_why" = some (some (.ref f21)))
    (l21 : K.lookup f21 = some ⟨oc21, od21, .func (PySem.W.fnOf "_law_why" "_law_why" (defArgs sWhy) (defBody sWhy) (defScope sWhy) .none kV21 dc21 pm21 an21 cd21 ct21), sl21⟩)
    (c21 : PySem.W.codeIn K cd21 "_law_why" = true)
    (k21 : PySem.W.keepIn K (.ref f21) = true)
    (a22 : PySem.W.nsIn K mainGlobals "_law_field" = some (some (.ref f22)))
    (l22 : K.lookup f22 = some ⟨oc22, od22, .func (PySem.W.fnOf "_law_field" "_law_field" (defArgs sField) (defBody sField) (defScope sField) .none kV22 dc22 pm22 an22 cd22 ct22), sl22⟩)
    (c22 : PySem.W.codeIn K cd22 "_law_field" = true)
    (k22 : PySem.W.keepIn K (.ref f22) = true)
    (a23 : PySem.W.nsIn K mainGlobals "_law_names" = some (some (.ref f23)))
    (l23 : K.lookup f23 = some ⟨oc23, od23, .func (PySem.W.fnOf "_law_names" "_law_names" (defArgs sNames) (defBody sNames) (defScope sNames) .none kV23 dc23 pm23 an23 cd23 ct23), sl23⟩)
    (c23 : PySem.W.codeIn K cd23 "_law_names" = true)
    (k23 : PySem.W.keepIn K (.ref f23) = true)
    (a24 : PySem.W.nsIn K mainGlobals "_law_mixed" = some (some (.ref f24)))
    (l24 : K.lookup f24 = some ⟨oc24, od24, .func (PySem.W.fnOf "_law_mixed" "_law_mixed" (defArgs sMixed) (defBody sMixed) (defScope sMixed) .none kV24 dc24 pm24 an24 cd24 ct24), sl24⟩)
    (c24 : PySem.W.codeIn K cd24 "_law_mixed" = true)
    (k24 : PySem.W.keepIn K (.ref f24) = true)
    (a25 : PySem.W.nsIn K mainGlobals "_law_odd" = some (some (.ref f25)))
    (l25 : K.lookup f25 = some ⟨oc25, od25, .func (PySem.W.fnOf "_law_odd" "_law_odd" (defArgs sOdd) (defBody sOdd) (defScope sOdd) .none kV25 dc25 pm25 an25 cd25 ct25), sl25⟩)
    (c25 : PySem.W.codeIn K cd25 "_law_odd" = true)
    (k25 : PySem.W.keepIn K (.ref f25) = true)
    (a26 : PySem.W.nsIn K mainGlobals "_law_trim" = some (some (.ref f26)))
    (l26 : K.lookup f26 = some ⟨oc26, od26, .func (PySem.W.fnOf "_law_trim" "_law_trim" (defArgs sLawTrim) (defBody sLawTrim) (defScope sLawTrim) .none kV26 dc26 pm26 an26 cd26 ct26), sl26⟩)
    (c26 : PySem.W.codeIn K cd26 "_law_trim" = true)
    (k26 : PySem.W.keepIn K (.ref f26) = true)
    (a27 : PySem.W.nsIn K mainGlobals "_law_times" = some (some (.ref f27)))
    (l27 : K.lookup f27 = some ⟨oc27, od27, .func (PySem.W.fnOf "_law_times" "_law_times" (defArgs sLawTimes) (defBody sLawTimes) (defScope sLawTimes) .none kV27 dc27 pm27 an27 cd27 ct27), sl27⟩)
    (c27 : PySem.W.codeIn K cd27 "_law_times" = true)
    (k27 : PySem.W.keepIn K (.ref f27) = true)
    (a28 : PySem.W.nsIn K mainGlobals "_law_plus" = some (some (.ref f28)))
    (l28 : K.lookup f28 = some ⟨oc28, od28, .func (PySem.W.fnOf "_law_plus" "_law_plus" (defArgs sLawPlus) (defBody sLawPlus) (defScope sLawPlus) .none kV28 dc28 pm28 an28 cd28 ct28), sl28⟩)
    (c28 : PySem.W.codeIn K cd28 "_law_plus" = true)
    (k28 : PySem.W.keepIn K (.ref f28) = true)
    (a29 : PySem.W.nsIn K mainGlobals "_law_cells" = some (some (.ref f29)))
    (l29 : K.lookup f29 = some ⟨oc29, od29, .func (PySem.W.fnOf "_law_cells" "_law_cells" (defArgs sLawCells) (defBody sLawCells) (defScope sLawCells) .none kV29 dc29 pm29 an29 cd29 ct29), sl29⟩)
    (c29 : PySem.W.codeIn K cd29 "_law_cells" = true)
    (k29 : PySem.W.keepIn K (.ref f29) = true)
    (a30 : PySem.W.nsIn K mainGlobals "_law_pair" = some (some (.ref f30)))
    (l30 : K.lookup f30 = some ⟨oc30, od30, .func (PySem.W.fnOf "_law_pair" "_law_pair" (defArgs sLawPair) (defBody sLawPair) (defScope sLawPair) .none kV30 dc30 pm30 an30 cd30 ct30), sl30⟩)
    (c30 : PySem.W.codeIn K cd30 "_law_pair" = true)
    (k30 : PySem.W.keepIn K (.ref f30) = true)
    (a31 : PySem.W.nsIn K mainGlobals "_law_rest" = some (some (.ref f31)))
    (l31 : K.lookup f31 = some ⟨oc31, od31, .func (PySem.W.fnOf "_law_rest" "_law_rest" (defArgs sLawRest) (defBody sLawRest) (defScope sLawRest) .none kV31 dc31 pm31 an31 cd31 ct31), sl31⟩)
    (c31 : PySem.W.codeIn K cd31 "_law_rest" = true)
    (k31 : PySem.W.keepIn K (.ref f31) = true)
    (a32 : PySem.W.nsIn K mainGlobals "_law_coprime" = some (some (.ref f32)))
    (l32 : K.lookup f32 = some ⟨oc32, od32, .func (PySem.W.fnOf "_law_coprime" "_law_coprime" (defArgs sLawCoprime) (defBody sLawCoprime) (defScope sLawCoprime) .none kV32 dc32 pm32 an32 cd32 ct32), sl32⟩)
    (c32 : PySem.W.codeIn K cd32 "_law_coprime" = true)
    (k32 : PySem.W.keepIn K (.ref f32) = true)
    (a33 : PySem.W.nsIn K mainGlobals "_law_series_so" = some (some (.ref f33)))
    (l33 : K.lookup f33 = some ⟨oc33, od33, .func (PySem.W.fnOf "_law_series_so" "_law_series_so" (defArgs sLawSo) (defBody sLawSo) (defScope sLawSo) .none kV33 dc33 pm33 an33 cd33 ct33), sl33⟩)
    (c33 : PySem.W.codeIn K cd33 "_law_series_so" = true)
    (k33 : PySem.W.keepIn K (.ref f33) = true)
    (a34 : PySem.W.nsIn K mainGlobals "_law_order" = some (some (.ref f34)))
    (l34 : K.lookup f34 = some ⟨oc34, od34, .func (PySem.W.fnOf "_law_order" "_law_order" (defArgs sLawOrder) (defBody sLawOrder) (defScope sLawOrder) .none kV34 dc34 pm34 an34 cd34 ct34), sl34⟩)
    (c34 : PySem.W.codeIn K cd34 "_law_order" = true)
    (k34 : PySem.W.keepIn K (.ref f34) = true)
    (a35 : PySem.W.nsIn K mainGlobals "_law_leaf_form" = some (some (.ref f35)))
    (l35 : K.lookup f35 = some ⟨oc35, od35, .func (PySem.W.fnOf "_law_leaf_form" "_law_leaf_form" (defArgs sLawLeaf) (defBody sLawLeaf) (defScope sLawLeaf) .none kV35 dc35 pm35 an35 cd35 ct35), sl35⟩)
    (c35 : PySem.W.codeIn K cd35 "_law_leaf_form" = true)
    (k35 : PySem.W.keepIn K (.ref f35) = true)
    (a36 : PySem.W.nsIn K mainGlobals "_law_quotients" = some (some (.ref f36)))
    (l36 : K.lookup f36 = some ⟨oc36, od36, .func (PySem.W.fnOf "_law_quotients" "_law_quotients" (defArgs sLawQuot) (defBody sLawQuot) (defScope sLawQuot) .none kV36 dc36 pm36 an36 cd36 ct36), sl36⟩)
    (c36 : PySem.W.codeIn K cd36 "_law_quotients" = true)
    (k36 : PySem.W.keepIn K (.ref f36) = true)
    (a37 : PySem.W.nsIn K mainGlobals "_law_leaf_so" = some (some (.ref f37)))
    (l37 : K.lookup f37 = some ⟨oc37, od37, .func (PySem.W.fnOf "_law_leaf_so" "_law_leaf_so" (defArgs sLawLeafSo) (defBody sLawLeafSo) (defScope sLawLeafSo) .none kV37 dc37 pm37 an37 cd37 ct37), sl37⟩)
    (c37 : PySem.W.codeIn K cd37 "_law_leaf_so" = true)
    (k37 : PySem.W.keepIn K (.ref f37) = true)
    (a38 : PySem.W.nsIn K mainGlobals "_law_form_copies" = some (some (.ref f38)))
    (l38 : K.lookup f38 = some ⟨oc38, od38, .func (PySem.W.fnOf "_law_form_copies" "_law_form_copies" (defArgs sCopies) (defBody sCopies) (defScope sCopies) .none kV38 dc38 pm38 an38 cd38 ct38), sl38⟩)
    (c38 : PySem.W.codeIn K cd38 "_law_form_copies" = true)
    (k38 : PySem.W.keepIn K (.ref f38) = true)
    (al : PySem.W.nsIn K mainGlobals "law" = some (some (.ref fl)))
    (ll : K.lookup fl = some ⟨ocl, odl, .func (PySem.W.fnOf "law" "law" (defArgs sLaw) (defBody sLaw) (defScope sLaw) .none kVl dcl pml anl (.ref c0) ctl), sll⟩)
    (cl : PySem.W.codeIn K (.ref c0) "law" = true)
    (kl : PySem.W.keepIn K (.ref fl) = true)
    (z_isinstance : PySem.W.nsIn K mainGlobals "isinstance" = some none)
    (z_str : PySem.W.nsIn K mainGlobals "str" = some none)
    (z_int : PySem.W.nsIn K mainGlobals "int" = some none)
    (z_bool : PySem.W.nsIn K mainGlobals "bool" = some none)
    (z_len : PySem.W.nsIn K mainGlobals "len" = some none)
    (z_all : PySem.W.nsIn K mainGlobals "all" = some none)
    (z_list : PySem.W.nsIn K mainGlobals "list" = some none)
    (z_tuple : PySem.W.nsIn K mainGlobals "tuple" = some none)
    (z_dict : PySem.W.nsIn K mainGlobals "dict" = some none)
    (z_sorted : PySem.W.nsIn K mainGlobals "sorted" = some none)
    (z_zip : PySem.W.nsIn K mainGlobals "zip" = some none)
    (z_range : PySem.W.nsIn K mainGlobals "range" = some none)
    (z_enumerate : PySem.W.nsIn K mainGlobals "enumerate" = some none)
    (z_max : PySem.W.nsIn K mainGlobals "max" = some none)
    (z_min : PySem.W.nsIn K mainGlobals "min" = some none)
    (z_reversed : PySem.W.nsIn K mainGlobals "reversed" = some none)
    (z_any : PySem.W.nsIn K mainGlobals "any" = some none)
    (z_repr : PySem.W.nsIn K mainGlobals "repr" = some none)
    (e_SPARE_BITS : PySem.W.nsIn K mainGlobals "SPARE_BITS" = some (some (.int 32 tk_SPARE_BITS)))
    (e_MOST_BEATS : PySem.W.nsIn K mainGlobals "MOST_BEATS" = some (some (.int 1000 tk_MOST_BEATS)))
    (e_LETTERS : PySem.W.nsIn K mainGlobals "LETTERS" = some (some (.str letters tk_LETTERS)))
    (e_LONGEST_NAME : PySem.W.nsIn K mainGlobals "LONGEST_NAME" = some (some (.int 4 tk_LONGEST_NAME)))
    (e_gcd : PySem.W.nsIn K mainGlobals "gcd" = some (some (.builtin "math.gcd")))
    (a_CS : PySem.W.nsIn K mainGlobals "Series" = some (some (.ref CS)))
    (pgCS : PySem.W.plainGet K CS Str.empty = true)
    (hdCS : PySem.W.hasDictIn K CS = true)
    (poCS : PySem.W.plainOver K CS = true)
    (saCS : PySem.W.findIn K (.ref CS) "__setattr__" = some (some (.builtin "object.__setattr__")))
    (mkCS : PySem.W.makesIn K CS = true)
    (kpCS : PySem.W.keepIn K (.ref CS) = true)
    (ci_CS : PySem.W.clsIn K CS = some cdtCS)
    (noCS_top : PySem.W.findIn K (.ref CS) "_top" = some none)
    (noCS_bottom : PySem.W.findIn K (.ref CS) "_bottom" = some none)
    (noCSorder : PySem.W.findIn K (.ref CS) "order" = some none)
    (pIa : PySem.W.findIn K (.ref CS) "__class__" = some (some (.builtin "object.__class__")))
    (pIb : PySem.W.specialIn K (.builtin "object.__class__") "__get__" = some (some (.builtin "getset_descriptor.__get__")))
    (pIc : PySem.W.takesIn K (.builtin "object.__class__") = some true)
    (pId : PySem.W.mroIn K CS (.type "object") = some true)
    (pIe : PySem.W.kitOne K (.ref CS) (.ref CS) = some true)
    (pIf : PySem.W.kitOne K (.type "list") (.ref CS) = some false)
    (pIg : PySem.W.kitOne K (.type "int") (.ref CS) = some false)
    (aI : PySem.W.findIn K (.ref CS) "__init__" = some (some (.ref fI)))
    (nI : PySem.W.isFn K (.ref fI) = true)
    (lI : K.lookup fI = some ⟨ocI, odI, .func (PySem.W.fnOf "__init__" "Series.__init__" (defArgs sS_init) (defBody sS_init) (defScope sS_init) (.ref TI) kVI dcI pmI anI cdI ctI), slI⟩)
    (cI : PySem.W.codeIn K cdI "Series.__init__" = true)
    (kI : PySem.W.keepIn K (.ref fI) = true)
    (tI : K.lookup TI = some ⟨tcI, tdI, .seq #[.ref dT] tnI, tsI⟩)
    (tD : K.lookup dT = some ⟨.type "tuple", tdD, .seq #[.int 1 tkD] tnD, tsD⟩)
    (aS0 : PySem.W.findIn K (.ref CS) "top" = some (some (.ref fS0)))
    (nS0 : PySem.W.isFn K (.ref fS0) = true)
    (lS0 : K.lookup fS0 = some ⟨ocS0, odS0, .func (PySem.W.fnOf "top" "Series.top" (defArgs sS_top) (defBody sS_top) (defScope sS_top) .none kVS0 dcS0 pmS0 anS0 cdS0 ctS0), slS0⟩)
    (cS0 : PySem.W.codeIn K cdS0 "Series.top" = true)
    (kS0 : PySem.W.keepIn K (.ref fS0) = true)
    (aS1 : PySem.W.findIn K (.ref CS) "bottom" = some (some (.ref fS1)))
    (nS1 : PySem.W.isFn K (.ref fS1) = true)
    (lS1 : K.lookup fS1 = some ⟨ocS1, odS1, .func (PySem.W.fnOf "bottom" "Series.bottom" (defArgs sS_bottom) (defBody sS_bottom) (defScope sS_bottom) .none kVS1 dcS1 pmS1 anS1 cdS1 ctS1), slS1⟩)
    (cS1 : PySem.W.codeIn K cdS1 "Series.bottom" = true)
    (kS1 : PySem.W.keepIn K (.ref fS1) = true)
    (aS2 : PySem.W.findIn K (.ref CS) "__eq__" = some (some (.ref fS2)))
    (nS2 : PySem.W.isFn K (.ref fS2) = true)
    (lS2 : K.lookup fS2 = some ⟨ocS2, odS2, .func (PySem.W.fnOf "__eq__" "Series.__eq__" (defArgs sS_eq) (defBody sS_eq) (defScope sS_eq) .none kVS2 dcS2 pmS2 anS2 cdS2 ctS2), slS2⟩)
    (cS2 : PySem.W.codeIn K cdS2 "Series.__eq__" = true)
    (kS2 : PySem.W.keepIn K (.ref fS2) = true)
    (aS3 : PySem.W.findIn K (.ref CS) "__bool__" = some (some (.ref fS3)))
    (nS3 : PySem.W.isFn K (.ref fS3) = true)
    (lS3 : K.lookup fS3 = some ⟨ocS3, odS3, .func (PySem.W.fnOf "__bool__" "Series.__bool__" (defArgs sS_bool) (defBody sS_bool) (defScope sS_bool) .none kVS3 dcS3 pmS3 anS3 cdS3 ctS3), slS3⟩)
    (cS3 : PySem.W.codeIn K cdS3 "Series.__bool__" = true)
    (kS3 : PySem.W.keepIn K (.ref fS3) = true)
    (uU : PySem.W.nsIn K mainGlobals "UnopenedError" = some (some (.ref U)))
    (uMM : PySem.W.nsIn K mainGlobals "Missing" = some (some (.ref MM)))
    (uNL : PySem.W.nsIn K mainGlobals "NothingLeft" = some (some (.ref NL)))
    (hZ : CX K CZ eZ "InvalidForm" "InvalidForm.__init__" sEInvalidForm (.ref U :: XV.tailVE) "ValueError.__new__" [])
    (noZ_order : PySem.W.findIn K (.ref CZ) "order" = some none)
    (noZ_value : PySem.W.findIn K (.ref CZ) "value" = some none)
    (exZ : PySem.W.exmAny K (.ref CZ) [.ref U, .ref MM, .ref NL] = some true)
    (moCS : cdtCS.mro = [.ref CS, .type "object"])
    (a_CF : PySem.W.nsIn K mainGlobals "Form" = some (some (.ref CF)))
    (pgCF : PySem.W.plainGet K CF Str.empty = true)
    (hdCF : PySem.W.hasDictIn K CF = true)
    (poCF : PySem.W.plainOver K CF = true)
    (saCF : PySem.W.findIn K (.ref CF) "__setattr__" = some (some (.builtin "object.__setattr__")))
    (mkCF : PySem.W.makesIn K CF = true)
    (kpCF : PySem.W.keepIn K (.ref CF) = true)
    (ci_CF : PySem.W.clsIn K CF = some cdtCF)
    (noCF_sources : PySem.W.findIn K (.ref CF) "_sources" = some none)
    (noCF_boxes : PySem.W.findIn K (.ref CF) "_boxes" = some none)
    (noCForder : PySem.W.findIn K (.ref CF) "order" = some none)
    (moCF : cdtCF.mro = [.ref CF, .type "object"])
    (pJa : PySem.W.findIn K (.ref CF) "__class__" = some (some (.builtin "object.__class__")))
    (pJd : PySem.W.mroIn K CF (.type "object") = some true)
    (pJe : PySem.W.kitOne K (.ref CF) (.ref CF) = some true)
    (pJf : PySem.W.kitOne K (.type "list") (.ref CF) = some false)
    (pJg : PySem.W.kitOne K (.type "int") (.ref CF) = some false)
    (pNa : PySem.W.kitOne K (.type "NoneType") (.ref CS) = some false)
    (pNb : PySem.W.kitOne K (.type "str") (.ref CS) = some false)
    (pNc : PySem.W.kitOne K (.ref CF) (.ref CS) = some false)
    (pNf : PySem.W.kitOne K (.ref CS) (.ref CF) = some false)
    (aIF : PySem.W.findIn K (.ref CF) "__init__" = some (some (.ref fIF)))
    (nIF : PySem.W.isFn K (.ref fIF) = true)
    (lIF : K.lookup fIF = some ⟨ocIF, odIF, .func (PySem.W.fnOf "__init__" "Form.__init__" (defArgs sF_init) (defBody sF_init) (defScope sF_init) (.ref TIF) kVIF dcIF pmIF anIF cdIF ctIF), slIF⟩)
    (cIF : PySem.W.codeIn K cdIF "Form.__init__" = true)
    (kIF : PySem.W.keepIn K (.ref fIF) = true)
    (tIF : K.lookup TIF = some ⟨tcIF, tdIF, .seq #[.none, .none] tnIF, tsIF⟩)
    (aG0 : PySem.W.findIn K (.ref CF) "source" = some (some (.ref fG0)))
    (nG0 : PySem.W.isFn K (.ref fG0) = true)
    (lG0 : K.lookup fG0 = some ⟨ocG0, odG0, .func (PySem.W.fnOf "source" "Form.source" (defArgs sF_source) (defBody sF_source) (defScope sF_source) .none kVG0 dcG0 pmG0 anG0 cdG0 ctG0), slG0⟩)
    (cG0 : PySem.W.codeIn K cdG0 "Form.source" = true)
    (kG0 : PySem.W.keepIn K (.ref fG0) = true)
    (aG1 : PySem.W.findIn K (.ref CF) "box" = some (some (.ref fG1)))
    (nG1 : PySem.W.isFn K (.ref fG1) = true)
    (lG1 : K.lookup fG1 = some ⟨ocG1, odG1, .func (PySem.W.fnOf "box" "Form.box" (defArgs sF_box) (defBody sF_box) (defScope sF_box) .none kVG1 dcG1 pmG1 anG1 cdG1 ctG1), slG1⟩)
    (cG1 : PySem.W.codeIn K cdG1 "Form.box" = true)
    (kG1 : PySem.W.keepIn K (.ref fG1) = true)
    (aG2 : PySem.W.findIn K (.ref CF) "sources" = some (some (.ref fG2)))
    (nG2 : PySem.W.isFn K (.ref fG2) = true)
    (lG2 : K.lookup fG2 = some ⟨ocG2, odG2, .func (PySem.W.fnOf "sources" "Form.sources" (defArgs sF_sources) (defBody sF_sources) (defScope sF_sources) .none kVG2 dcG2 pmG2 anG2 cdG2 ctG2), slG2⟩)
    (cG2 : PySem.W.codeIn K cdG2 "Form.sources" = true)
    (kG2 : PySem.W.keepIn K (.ref fG2) = true)
    (aG3 : PySem.W.findIn K (.ref CF) "boxes" = some (some (.ref fG3)))
    (nG3 : PySem.W.isFn K (.ref fG3) = true)
    (lG3 : K.lookup fG3 = some ⟨ocG3, odG3, .func (PySem.W.fnOf "boxes" "Form.boxes" (defArgs sF_boxes) (defBody sF_boxes) (defScope sF_boxes) .none kVG3 dcG3 pmG3 anG3 cdG3 ctG3), slG3⟩)
    (cG3 : PySem.W.codeIn K cdG3 "Form.boxes" = true)
    (kG3 : PySem.W.keepIn K (.ref fG3) = true)
    (aG4 : PySem.W.findIn K (.ref CF) "__eq__" = some (some (.ref fG4)))
    (nG4 : PySem.W.isFn K (.ref fG4) = true)
    (lG4 : K.lookup fG4 = some ⟨ocG4, odG4, .func (PySem.W.fnOf "__eq__" "Form.__eq__" (defArgs sF_eq) (defBody sF_eq) (defScope sF_eq) .none kVG4 dcG4 pmG4 anG4 cdG4 ctG4), slG4⟩)
    (cG4 : PySem.W.codeIn K cdG4 "Form.__eq__" = true)
    (kG4 : PySem.W.keepIn K (.ref fG4) = true)
    (aG5 : PySem.W.findIn K (.ref CF) "__bool__" = some (some (.ref fG5)))
    (nG5 : PySem.W.isFn K (.ref fG5) = true)
    (lG5 : K.lookup fG5 = some ⟨ocG5, odG5, .func (PySem.W.fnOf "__bool__" "Form.__bool__" (defArgs sF_bool) (defBody sF_bool) (defScope sF_bool) .none kVG5 dcG5 pmG5 anG5 cdG5 ctG5), slG5⟩)
    (cG5 : PySem.W.codeIn K cdG5 "Form.__bool__" = true)
    (kG5 : PySem.W.keepIn K (.ref fG5) = true)
    (aG6 : PySem.W.findIn K (.ref CF) "__repr__" = some (some (.ref fG6)))
    (nG6 : PySem.W.isFn K (.ref fG6) = true)
    (lG6 : K.lookup fG6 = some ⟨ocG6, odG6, .func (PySem.W.fnOf "__repr__" "Form.__repr__" (defArgs sF_repr) (defBody sF_repr) (defScope sF_repr) .none kVG6 dcG6 pmG6 anG6 cdG6 ctG6), slG6⟩)
    (cG6 : PySem.W.codeIn K cdG6 "Form.__repr__" = true)
    (kG6 : PySem.W.keepIn K (.ref fG6) = true)
    (neFS : CF ≠ CS)
    (hsubFS : PySem.W.subIn K (.ref CS) (.ref CF) = some false)
    : ∃ fd : FuncData, (∀ (s : Shared) (v : Value), BindsTo s fd ⟨[v], []⟩ [("_law_script", v)]) ∧ ∀ base : Heap, K.In base → base.Ns mainGlobals mg → LamX.TabB base mg c0 P0 → FnOk l.prog w K mg base CX0 15 fa fd ["_law_script"] (spLawT K P0) := by
  have F1 := fun_mk (st := sIsInteger) l1 c1 k1
  have m1 := PySem.W.mg_of X G a1
  have b1 := F1.binds (ps := ["value"]) fun _ _ _ _ _ _ us hl => match us, hl with | [_], _ => rfl
  have F2 := fun_mk (st := sIsNumber) l2 c2 k2
  have m2 := PySem.W.mg_of X G a2
  have b2 := F2.binds (ps := ["value", "least", "most"]) fun _ _ _ _ _ _ us hl => match us, hl with | [_, _, _], _ => rfl
  have F3 := fun_mk (st := sTrimmed) l3 c3 k3
  have m3 := PySem.W.mg_of X G a3
  have b3 := F3.binds (ps := ["row"]) fun _ _ _ _ _ _ us hl => match us, hl with | [_], _ => rfl
  have F4 := fun_mk (st := sOrderOf) l4 c4 k4
  have m4 := PySem.W.mg_of X G a4
  have b4 := F4.binds (ps := ["row"]) fun _ _ _ _ _ _ us hl => match us, hl with | [_], _ => rfl
  have F5 := fun_mk (st := sQuotientOf) l5 c5 k5
  have m5 := PySem.W.mg_of X G a5
  have b5 := F5.binds (ps := ["row", "factor"]) fun _ _ _ _ _ _ us hl => match us, hl with | [_, _], _ => rfl
  have F6 := fun_mk (st := sRootBits) l6 c6 k6
  have m6 := PySem.W.mg_of X G a6
  have b6 := F6.binds (ps := ["row"]) fun _ _ _ _ _ _ us hl => match us, hl with | [_], _ => rfl
  have F7 := fun_mk (st := sValueAt) l7 c7 k7
  have m7 := PySem.W.mg_of X G a7
  have b7 := F7.binds (ps := ["row", "bits"]) fun _ _ _ _ _ _ us hl => match us, hl with | [_, _], _ => rfl
  have F8 := fun_mk (st := sDigitsOf) l8 c8 k8
  have m8 := PySem.W.mg_of X G a8
  have b8 := F8.binds (ps := ["number", "bits"]) fun _ _ _ _ _ _ us hl => match us, hl with | [_, _], _ => rfl
  have F9 := fun_mk (st := sBegunWithOne) l9 c9 k9
  have m9 := PySem.W.mg_of X G a9
  have b9 := F9.binds (ps := ["row"]) fun _ _ _ _ _ _ us hl => match us, hl with | [_], _ => rfl
  have F10 := fun_mk (st := sCancelled) l10 c10 k10
  have m10 := PySem.W.mg_of X G a10
  have b10 := F10.binds (ps := ["one", "other"]) fun _ _ _ _ _ _ us hl => match us, hl with | [_, _], _ => rfl
  have F11 := fun_mk (st := sReduced) l11 c11 k11
  have m11 := PySem.W.mg_of X G a11
  have b11 := F11.binds (ps := ["top", "bottom"]) fun _ _ _ _ _ _ us hl => match us, hl with | [_, _], _ => rfl
  have F12 := fun_mk (st := sIsRow) l12 c12 k12
  have m12 := PySem.W.mg_of X G a12
  have b12 := F12.binds (ps := ["value"]) fun _ _ _ _ _ _ us hl => match us, hl with | [_], _ => rfl
  have F13 := fun_mk (st := sIsName) l13 c13 k13
  have m13 := PySem.W.mg_of X G a13
  have b13 := F13.binds (ps := ["value"]) fun _ _ _ _ _ _ us hl => match us, hl with | [_], _ => rfl
  have F14 := fun_mk (st := sAreSources) l14 c14 k14
  have m14 := PySem.W.mg_of X G a14
  have b14 := F14.binds (ps := ["value"]) fun _ _ _ _ _ _ us hl => match us, hl with | [_], _ => rfl
  have F15 := fun_mk (st := sAreBoxes) l15 c15 k15
  have m15 := PySem.W.mg_of X G a15
  have b15 := F15.binds (ps := ["value"]) fun _ _ _ _ _ _ us hl => match us, hl with | [_], _ => rfl
  have F16 := fun_mk (st := sNotZero) l16 c16 k16
  have m16 := PySem.W.mg_of X G a16
  have b16 := F16.binds (ps := ["table"]) fun _ _ _ _ _ _ us hl => match us, hl with | [_], _ => rfl
  have F17 := fun_mk (st := sBag) l17 c17 k17
  have m17 := PySem.W.mg_of X G a17
  have b17 := F17.binds (ps := ["_law_script"]) fun _ _ _ _ _ _ us hl => match us, hl with | [_], _ => rfl
  have F18 := fun_mk (st := sPull) l18 c18 k18
  have m18 := PySem.W.mg_of X G a18
  have b18 := F18.binds (ps := ["_law_bag_here", "_law_many"]) fun _ _ _ _ _ _ us hl => match us, hl with | [_, _], _ => rfl
  have F19 := fun_mk (st := sAny) l19 c19 k19
  have m19 := PySem.W.mg_of X G a19
  have b19 := F19.binds (ps := ["_law_bag_here", "_law_things"]) fun _ _ _ _ _ _ us hl => match us, hl with | [_, _], _ => rfl
  have F20 := fun_mk (st := sSame) l20 c20 k20
  have m20 := PySem.W.mg_of X G a20
  have b20 := F20.binds (ps := ["_law_found", "_law_due"]) fun _ _ _ _ _ _ us hl => match us, hl with | [_, _], _ => rfl
  have F21 := fun_mk (st := sWhy) l21 c21 k21
  have m21 := PySem.W.mg_of X G a21
  have b21 := F21.binds (ps := ["_law_ask"]) fun _ _ _ _ _ _ us hl => match us, hl with | [_], _ => rfl
  have F22 := fun_mk (st := sField) l22 c22 k22
  have m22 := PySem.W.mg_of X G a22
  have b22 := F22.binds (ps := ["_law_e"]) fun _ _ _ _ _ _ us hl => match us, hl with | [_], _ => rfl
  have F23 := fun_mk (st := sNames) l23 c23 k23
  have m23 := PySem.W.mg_of X G a23
  have b23 := F23.binds (ps := ["_law_bag_here", "_law_many"]) fun _ _ _ _ _ _ us hl => match us, hl with | [_, _], _ => rfl
  have F24 := fun_mk (st := sMixed) l24 c24 k24
  have m24 := PySem.W.mg_of X G a24
  have b24 := F24.binds (ps := ["_law_bag_here", "_law_things"]) fun _ _ _ _ _ _ us hl => match us, hl with | [_, _], _ => rfl
  have F25 := fun_mk (st := sOdd) l25 c25 k25
  have m25 := PySem.W.mg_of X G a25
  have b25 := F25.binds (ps := ["_law_bag_here", "_law_more"]) fun _ _ _ _ _ _ us hl => match us, hl with | [_, _], _ => rfl
  have F26 := fun_mk (st := sLawTrim) l26 c26 k26
  have m26 := PySem.W.mg_of X G a26
  have b26 := F26.binds (ps := ["_law_cells_here"]) fun _ _ _ _ _ _ us hl => match us, hl with | [_], _ => rfl
  have F27 := fun_mk (st := sLawTimes) l27 c27 k27
  have m27 := PySem.W.mg_of X G a27
  have b27 := F27.binds (ps := ["_law_one", "_law_other"]) fun _ _ _ _ _ _ us hl => match us, hl with | [_, _], _ => rfl
  have F28 := fun_mk (st := sLawPlus) l28 c28 k28
  have m28 := PySem.W.mg_of X G a28
  have b28 := F28.binds (ps := ["_law_one", "_law_other", "_law_factor"]) fun _ _ _ _ _ _ us hl => match us, hl with | [_, _, _], _ => rfl
  have F29 := fun_mk (st := sLawCells) l29 c29 k29
  have m29 := PySem.W.mg_of X G a29
  have b29 := F29.binds (ps := ["_law_bag_here", "_law_many", "_law_wide"]) fun _ _ _ _ _ _ us hl => match us, hl with | [_, _, _], _ => rfl
  have F30 := fun_mk (st := sLawPair) l30 c30 k30
  have m30 := PySem.W.mg_of X G a30
  have b30 := F30.binds (ps := ["_law_bag_here", "_law_many", "_law_wide"]) fun _ _ _ _ _ _ us hl => match us, hl with | [_, _, _], _ => rfl
  have F31 := fun_mk (st := sLawRest) l31 c31 k31
  have m31 := PySem.W.mg_of X G a31
  have b31 := F31.binds (ps := ["_law_one", "_law_other"]) fun _ _ _ _ _ _ us hl => match us, hl with | [_, _], _ => rfl
  have F32 := fun_mk (st := sLawCoprime) l32 c32 k32
  have m32 := PySem.W.mg_of X G a32
  have b32 := F32.binds (ps := ["_law_one", "_law_other"]) fun _ _ _ _ _ _ us hl => match us, hl with | [_, _], _ => rfl
  have F33 := fun_mk (st := sLawSo) l33 c33 k33
  have m33 := PySem.W.mg_of X G a33
  have b33 := F33.binds (ps := ["_law_found", "_law_pair_here"]) fun _ _ _ _ _ _ us hl => match us, hl with | [_, _], _ => rfl
  have F34 := fun_mk (st := sLawOrder) l34 c34 k34
  have m34 := PySem.W.mg_of X G a34
  have b34 := F34.binds (ps := ["_law_top"]) fun _ _ _ _ _ _ us hl => match us, hl with | [_], _ => rfl
  have F35 := fun_mk (st := sLawLeaf) l35 c35 k35
  have m35 := PySem.W.mg_of X G a35
  have b35 := F35.binds (ps := ["_law_pairs", "_law_boxes_z"]) fun _ _ _ _ _ _ us hl => match us, hl with | [_, _], _ => rfl
  have F36 := fun_mk (st := sLawQuot) l36 c36 k36
  have m36 := PySem.W.mg_of X G a36
  have b36 := F36.binds (ps := ["_law_bag_here", "_law_names_here", "_law_indexes"]) fun _ _ _ _ _ _ us hl => match us, hl with | [_, _, _], _ => rfl
  have F37 := fun_mk (st := sLawLeafSo) l37 c37 k37
  have m37 := PySem.W.mg_of X G a37
  have b37 := F37.binds (ps := ["_law_form", "_law_names_here", "_law_indexes", "_law_model"]) fun _ _ _ _ _ _ us hl => match us, hl with | [_, _, _, _], _ => rfl
  have F38 := fun_mk (st := sCopies) l38 c38 k38
  have m38 := PySem.W.mg_of X G a38
  have b38 := F38.binds (ps := ["_law_name_z"]) fun _ _ _ _ _ _ us hl => match us, hl with | [_], _ => rfl
  have ml := PySem.W.mg_of X G al
  cases hfa.symm.trans ml
  have m_isinstance := PySem.W.mg_none_of X G z_isinstance
  have m_str := PySem.W.mg_none_of X G z_str
  have m_int := PySem.W.mg_none_of X G z_int
  have m_bool := PySem.W.mg_none_of X G z_bool
  have m_len := PySem.W.mg_none_of X G z_len
  have m_all := PySem.W.mg_none_of X G z_all
  have m_list := PySem.W.mg_none_of X G z_list
  have m_tuple := PySem.W.mg_none_of X G z_tuple
  have m_dict := PySem.W.mg_none_of X G z_dict
  have m_sorted := PySem.W.mg_none_of X G z_sorted
  have m_zip := PySem.W.mg_none_of X G z_zip
  have m_range := PySem.W.mg_none_of X G z_range
  have m_enumerate := PySem.W.mg_none_of X G z_enumerate
  have m_max := PySem.W.mg_none_of X G z_max
  have m_min := PySem.W.mg_none_of X G z_min
  have m_reversed := PySem.W.mg_none_of X G z_reversed
  have m_any := PySem.W.mg_none_of X G z_any
  have m_repr := PySem.W.mg_none_of X G z_repr
  have me_SPARE_BITS := PySem.W.mg_of X G e_SPARE_BITS
  have me_MOST_BEATS := PySem.W.mg_of X G e_MOST_BEATS
  have me_LETTERS := PySem.W.mg_of X G e_LETTERS
  have me_LONGEST_NAME := PySem.W.mg_of X G e_LONGEST_NAME
  have me_gcd := PySem.W.mg_of X G e_gcd
  have m_CS := PySem.W.mg_of X G a_CS
  have ClCS : Cls K CS := ⟨pgCS, hdCS, poCS, saCS⟩
  have SC : SerC K CS := ⟨ClCS, noCS_top, noCS_bottom, noCSorder⟩
  have INS : IsS K CS := { cl := ClCS, ha := pIa, hn := pIb, htk := pIc, hm := pId, me := pIe, lst := pIf, int := pIg }
  have dflI : DflV K (.ref TI) [V.ref dT] := .inr ⟨by simp, TI, _, [.ref dT], tnI, rfl, tI, rfl, .cons rfl .nil⟩
  have FI : FunD K "__init__" "Series.__init__" (defArgs sS_init) (defBody sS_init) (defScope sS_init) [V.ref dT] [] fI _ := ⟨⟨_, _, _, _, _, _, _, _, _, _, rfl, lI, cI, dflI, .inl rfl⟩, kI⟩
  obtain ⟨e2, v2, bI2⟩ := FI.binds1 (ps := serPs) 3 1 (by simp) rfl (fun T kV doc pm an cdv ct us its h1 h2 => match us, its, h1, h2 with | [_, _, _], [_], _, _ => ⟨_, rfl, rfl⟩)
  cases v2
  obtain ⟨e1, v1, bI1⟩ := FI.binds1 (ps := serPs) 2 0 (by simp) rfl (fun T kV doc pm an cdv ct us its h1 h2 => match us, its, h1, h2 with | [_, _], [_], _, _ => ⟨_, rfl, rfl⟩)
  obtain ⟨_, kbS⟩ := FI.kbindsD (ps := serPs) 2 ["bottom"] (fun us _ ws => us ++ ws) (by simp) (fun r1 _ r3 => r1.append r3) (fun T kV doc pm an cdv ct us its ws h1 h2 h3 => match us, its, ws, h1, h2, h3 with | [_, _], [_], [_], _, _, _ => ⟨_, rfl, rfl⟩)
  have mkS : Mk K CS fI := ⟨mkCS, aI, nI, kpCS⟩
  have FS0 := fun_mk (st := sS_top) lS0 cS0 kS0
  have MS0 : Meth K CS "top" fS0 := ⟨aS0, nS0, kS0⟩
  have bS0 := FS0.binds (ps := ["self"]) fun _ _ _ _ _ _ us hl => match us, hl with | [_], _ => rfl
  have FS1 := fun_mk (st := sS_bottom) lS1 cS1 kS1
  have MS1 : Meth K CS "bottom" fS1 := ⟨aS1, nS1, kS1⟩
  have bS1 := FS1.binds (ps := ["self"]) fun _ _ _ _ _ _ us hl => match us, hl with | [_], _ => rfl
  have FS2 := fun_mk (st := sS_eq) lS2 cS2 kS2
  have MS2 : Meth K CS "__eq__" fS2 := ⟨aS2, nS2, kS2⟩
  have bS2 := FS2.binds (ps := ["self", "other"]) fun _ _ _ _ _ _ us hl => match us, hl with | [_, _], _ => rfl
  have FS3 := fun_mk (st := sS_bool) lS3 cS3 kS3
  have MS3 : Meth K CS "__bool__" fS3 := ⟨aS3, nS3, kS3⟩
  have bS3 := FS3.binds (ps := ["self"]) fun _ _ _ _ _ _ us hl => match us, hl with | [_], _ => rfl
  have m_U := PySem.W.mg_of X G uU
  have m_MM := PySem.W.mg_of X G uMM
  have m_NL := PySem.W.mg_of X G uNL
  obtain ⟨gZa, gZb, gZs, gZk, gZi, gZt, fdZ, GZ⟩ := hZ
  have TZ := gZb.oex F.excBase_ValueError XV.tailVE_ok rfl rfl gZs gZk
  have qZ := PySem.W.mg_of X G gZa
  have erZ : ErC K [.ref U, .ref MM, .ref NL] CZ := ⟨⟨gZb.2.1, gZb.2.2.1, TZ.exC, by obtain ⟨_, _, _, _, _, _, _, _, _, _, _, _, _, _, lz⟩ := gZb.1; exact cl_dict lz⟩, fun n hn => by
    simp only [attrsX, List.mem_cons, List.not_mem_nil, or_false] at hn
    rcases hn with rfl | rfl | rfl
    · exact gZb.2.2.2.2.1
    · exact noZ_order
    · exact noZ_value, exZ⟩
  have m_CF := PySem.W.mg_of X G a_CF
  have ClCF : Cls K CF := ⟨pgCF, hdCF, poCF, saCF⟩
  have FC : FrmC K CF := ⟨ClCF, noCF_sources, noCF_boxes, noCForder⟩
  have INF : IsS K CF := { cl := ClCF, ha := pJa, hn := pIb, htk := pIc, hm := pJd, me := pJe, lst := pJf, int := pJg }
  have NS : NotS K CS CF := ⟨pNa, pNb, pNc⟩
  have dflIF : DflV K (.ref TIF) [V.non, V.non] := .inr ⟨by simp, TIF, _, [.none, .none], tnIF, rfl, tIF, rfl, .cons rfl (.cons rfl .nil)⟩
  have FIF : FunD K "__init__" "Form.__init__" (defArgs sF_init) (defBody sF_init) (defScope sF_init) [V.non, V.non] [] fIF _ := ⟨⟨_, _, _, _, _, _, _, _, _, _, rfl, lIF, cIF, dflIF, .inl rfl⟩, kIF⟩
  obtain ⟨e2F, v2F, bF2⟩ := FIF.binds1 (ps := frmPs) 3 2 (by simp) rfl (fun T kV doc pm an cdv ct us its h1 h2 => match us, its, h1, h2 with | [_, _, _], [_, _], _, _ => ⟨_, rfl, rfl⟩)
  cases v2F
  obtain ⟨e1F, v1F, bF1⟩ := FIF.binds1 (ps := frmPs) 2 1 (by simp) rfl (fun T kV doc pm an cdv ct us its h1 h2 => match us, its, h1, h2 with | [_, _], [_, _], _, _ => ⟨_, rfl, rfl⟩)
  obtain rfl : e1F = [Value.none] := by
    cases v1F with
    | cons r t => cases t; exact congrArg (fun z => [z]) r
  obtain ⟨e0F, v0F, bF0⟩ := FIF.binds1 (ps := frmPs) 1 0 (by simp) rfl (fun T kV doc pm an cdv ct us its h1 h2 => match us, its, h1, h2 with | [_], [_, _], _, _ => ⟨_, rfl, rfl⟩)
  obtain rfl : e0F = [Value.none, Value.none] := by
    cases v0F with
    | cons r t => cases t with
      | cons r2 t2 => cases t2; rw [show _ = Value.none from r, show _ = Value.none from r2]
  obtain ⟨_, kF1⟩ := FIF.kbindsD (ps := frmPs) 1 ["boxes"] (fun us its ws => us ++ its.take 1 ++ ws) (by simp) (fun r1 r2 r3 => (r1.append (vals_take r2)).append r3) (fun T kV doc pm an cdv ct us its ws h1 h2 h3 => match us, its, ws, h1, h2, h3 with | [_], [_, _], [_], _, _, _ => ⟨_, rfl, rfl⟩)
  obtain ⟨_, kF2⟩ := FIF.kbindsD (ps := frmPs) 1 ["boxes", "sources"] (fun us _ ws => us ++ ws.reverse) (by simp) (fun r1 _ r3 => r1.append r3.reverse) (fun T kV doc pm an cdv ct us its ws h1 h2 h3 => match us, its, ws, h1, h2, h3 with | [_], [_, _], [_, _], _, _, _ => ⟨_, rfl, rfl⟩)
  have mkF : Mk K CF fIF := ⟨mkCF, aIF, nIF, kpCF⟩
  have FG0 := fun_mk (st := sF_source) lG0 cG0 kG0
  have MG0 : Meth K CF "source" fG0 := ⟨aG0, nG0, kG0⟩
  have bG0 := FG0.binds (ps := ["self", "name"]) fun _ _ _ _ _ _ us hl => match us, hl with | [_, _], _ => rfl
  have FG1 := fun_mk (st := sF_box) lG1 cG1 kG1
  have MG1 : Meth K CF "box" fG1 := ⟨aG1, nG1, kG1⟩
  have bG1 := FG1.binds (ps := ["self", "index"]) fun _ _ _ _ _ _ us hl => match us, hl with | [_, _], _ => rfl
  have FG2 := fun_mk (st := sF_sources) lG2 cG2 kG2
  have MG2 : Meth K CF "sources" fG2 := ⟨aG2, nG2, kG2⟩
  have bG2 := FG2.binds (ps := ["self"]) fun _ _ _ _ _ _ us hl => match us, hl with | [_], _ => rfl
  have FG3 := fun_mk (st := sF_boxes) lG3 cG3 kG3
  have MG3 : Meth K CF "boxes" fG3 := ⟨aG3, nG3, kG3⟩
  have bG3 := FG3.binds (ps := ["self"]) fun _ _ _ _ _ _ us hl => match us, hl with | [_], _ => rfl
  have FG4 := fun_mk (st := sF_eq) lG4 cG4 kG4
  have MG4 : Meth K CF "__eq__" fG4 := ⟨aG4, nG4, kG4⟩
  have bG4 := FG4.binds (ps := ["self", "other"]) fun _ _ _ _ _ _ us hl => match us, hl with | [_, _], _ => rfl
  have FG5 := fun_mk (st := sF_bool) lG5 cG5 kG5
  have MG5 : Meth K CF "__bool__" fG5 := ⟨aG5, nG5, kG5⟩
  have bG5 := FG5.binds (ps := ["self"]) fun _ _ _ _ _ _ us hl => match us, hl with | [_], _ => rfl
  have FG6 := fun_mk (st := sF_repr) lG6 cG6 kG6
  have MG6 : Meth K CF "__repr__" fG6 := ⟨aG6, nG6, kG6⟩
  have bG6 := FG6.binds (ps := ["self"]) fun _ _ _ _ _ _ us hl => match us, hl with | [_], _ => rfl
  have kbSo := Fun.kbn FG0 (ps := ["self", "name"]) 1 ["name"] (fun us ws => us ++ ws) (fun vs zs => vs ++ zs) (fun r rz => r.append rz) fun _ _ _ _ _ _ us ws h1 h2 => match us, ws, h1, h2 with | [_], [_], _, _ => rfl
  have kbBo := Fun.kbn FG1 (ps := ["self", "index"]) 1 ["index"] (fun us ws => us ++ ws) (fun vs zs => vs ++ zs) (fun r rz => r.append rz) fun _ _ _ _ _ _ us ws h1 h2 => match us, ws, h1, h2 with | [_], [_], _, _ => rfl
  refine ⟨PySem.W.fnOf "law" "law" (defArgs sLaw) (defBody sLaw) (defScope sLaw) .none kVl dcl pml anl (.ref c0) ctl, fun s v => .of_eq rfl, fun base _ _ TB => ?_⟩
  have XZ : Xr l.prog w K mg base CZ 0 eZ fdZ "InvalidForm" ["self"] (spI0 CZ "InvalidForm" ) (fun us ws => us ++ ws) := ⟨⟨TZ, gZi, gZt, ok_eInvalidForm GZ TZ gZb.2.2.2.2.1 , qZ⟩, Fun.kbn GZ 1 [] (fun us ws => us ++ ws) (fun vs zs => vs ++ zs) (fun r rz => r.append rz) fun _ _ _ _ _ _ us ws h1 h2 => match us, ws, h1, h2 with | [_], [], _, _ => rfl⟩
  have PT : PolT K w mg := ⟨m_len, m_list, m_range, m_enumerate, m_max, m_min, m_reversed, m_any, me_gcd, ⟨_, me_SPARE_BITS⟩⟩
  have ST : SerT mg := ⟨m_isinstance, m_list, m_tuple, m_all⟩
  have LT : LawT mg := ⟨m_len, m_list, m_range, m_enumerate, m_max, m_min, m_zip, m_all, m_isinstance, m_int, m_bool⟩
  have SX : SameTxt mg := ⟨m_isinstance, m_list, m_tuple, m_len, m_all, m_zip, m_bool, m_int, m_str⟩
  have D1 : Df l.prog w K mg base 1 f1 _ "is_integer" ["value"] (spInteger K) := ⟨ok_isint2 F1 m_isinstance m_int m_bool, b1, k1, m1⟩
  have NT : NameTxt mg := ⟨m_isinstance, m_str, m_int, m_bool, m_len, m_all, ⟨_, me_LETTERS⟩, ⟨_, me_LONGEST_NAME⟩⟩
  have D2 : Df l.prog w K mg base 2 f2 _ "is_number" ["value", "least", "most"] (spNumber K) := ⟨ok_isnumber F2 D1.ok b1 k1 m1, b2, k2, m2⟩
  have D3 : Df l.prog w K mg base 1 f3 _ "trimmed" ["row"] (spTrimmed K) := ⟨ok_trimmed F3 PT, b3, k3, m3⟩
  have D4 : Df l.prog w K mg base 1 f4 _ "order_of" ["row"] (spOrderOf K) := ⟨ok_orderOf F4 PT, b4, k4, m4⟩
  have D5 : Df l.prog w K mg base 2 f5 _ "quotient_of" ["row", "factor"] (spQuo K) := ⟨ok_quo F5 PT D4, b5, k5, m5⟩
  have D6 : Df l.prog w K mg base 1 f6 _ "root_bits" ["row"] (spRootBits K) := ⟨ok_rootBits F6 PT, b6, k6, m6⟩
  have D7 : Df l.prog w K mg base 1 f7 _ "value_at" ["row", "bits"] (spValueAt K) := ⟨ok_valueAt F7 PT, b7, k7, m7⟩
  have D8 : Df l.prog w K mg base 1 f8 _ "digits_of" ["number", "bits"] (spDigitsOf K) := ⟨ok_digitsOf F8 PT, b8, k8, m8⟩
  have D9 : Df l.prog w K mg base 1 f9 _ "begun_with_one" ["row"] (spBegun K) := ⟨ok_begun F9 PT, b9, k9, m9⟩
  have D10 : Df l.prog w K mg base 3 f10 _ "cancelled" ["one", "other"] (spCanc K) := ⟨ok_canc F10 PT D6 D7 D8 D9 D5, b10, k10, m10⟩
  have D11 : Df l.prog w K mg base 4 f11 _ "reduced" ["top", "bottom"] (spReduced K) := ⟨ok_reduced F11 PT D3 D4 D10, b11, k11, m11⟩
  have D12 : Df l.prog w K mg base 2 f12 _ "is_row" ["value"] (spIsRow K) := ⟨ok_isRow F12 ST D1, b12, k12, m12⟩
  have okS : FnOk l.prog w K mg base CX0 5 fI _ serPs (spSerI K CS) := ok_serI FI SC D12 D11 D4
  have MKS : MakS l.prog w K mg base CS fI _ (V.ref dT) _ := ⟨mkS, okS, m_CS, bI2, bI1, v1, fun H => ⟨dT, rfl, .inr (.inr ⟨_, _, _, tD, rfl, rfl, by show 1 ≤ sizeLine; decide, .cons ⟨_, rfl⟩ .nil⟩)⟩⟩
  have MT : Mt l.prog w K mg base CS 1 fS0 _ "top" ["self"] (spTopM CS) := ⟨MS0, ok_serTop FS0 SC ST, bS0⟩
  have MB : Mt l.prog w K mg base CS 1 fS1 _ "bottom" ["self"] (spBotM CS) := ⟨MS1, ok_serBottom FS1 SC ST, bS1⟩
  have OE : OwnX.OMt l.prog w K mg base CS 1 fS2 _ "__eq__" ["self", "other"] (spEqS CS) := ⟨MS2, ok_serEq FS2 SC INS m_CS m_isinstance, bS2⟩
  have OB : OwnX.OMt l.prog w K mg base CS 1 fS3 _ "__bool__" ["self"] (spBoolM CS) := ⟨MS3, ok_serBool FS3 SC, bS3⟩
  have D13 : Df l.prog w K mg base 1 f13 _ "is_name" ["value"] (spName K) := ⟨ok_isname F13 NT, b13, k13, m13⟩
  have D14 : Df l.prog w K mg base 2 f14 _ "are_sources" ["value"] (spAreSrc CS) := ⟨ok_areSources F14 INS m_CS m_isinstance m_all m_dict D13, b14, k14, m14⟩
  have D15 : Df l.prog w K mg base 2 f15 _ "are_boxes" ["value"] (spAreBox CS) := ⟨ok_areBoxes F15 INS m_CS m_isinstance m_all m_dict D1, b15, k15, m15⟩
  have D16 : Df l.prog w K mg base 1 f16 _ "not_zero" ["table"] (spNotZero CS) := ⟨ok_notZero F16 SC, b16, k16, m16⟩
  have okF : FnOk l.prog w K mg base CX0 3 fIF _ frmPs (spFormI CS CF) := ok_formI FIF FC SC m_min D14 D15 D16
  have MKF : MakF l.prog w K mg base CS CF fIF _ := ⟨mkF, okF, m_CF, bF2, bF1, bF0⟩
  have DSG : Df l.prog w K mg base 2 f14 _ "are_sources" ["value"] (spAreSrcG K CS CF) := ⟨ok_areSourcesG F14 INS INF NS m_CS m_isinstance m_all m_dict D13, b14, k14, m14⟩
  have DBA : Df l.prog w K mg base 2 f15 _ "are_boxes" ["value"] (spAreBoxA K CS CF) := ⟨FnOk.or (ok_areBoxesG F15 INS INF NS m_CS m_isinstance m_all m_dict D1) (ok_areBoxesT F15 INS m_CS m_isinstance m_all m_dict D1), b15, k15, m15⟩
  have okB : FnOk l.prog w K mg base (L2.CX l.prog w) 3 fIF _ frmPs (spFormBad (spAreSrcG K CS CF) (spAreBoxA K CS CF) CF CZ) := ok_formBad src0 FIF XZ m_min DSG DBA D16
  have MKB : MakB l.prog w K mg base CS CF CZ fIF _ := ⟨mkF, okB, m_CF, bF2⟩
  have MSs : Mt l.prog w K mg base CF 1 fG2 _ "sources" ["self"] (spSourcesF CS CF) := ⟨MG2, ok_srcs FG2 FC m_sorted m_list, bG2⟩
  have MBs : Mt l.prog w K mg base CF 1 fG3 _ "boxes" ["self"] (spBoxesF CS CF) := ⟨MG3, ok_boxs FG3 FC m_sorted m_list, bG3⟩
  have MSo : Mt l.prog w K mg base CF 7 fG0 _ "source" ["self", "name"] (spSource CS CF) := ⟨MG0, ok_source FG0 FC MKS D13, bG0⟩
  have MBo : Mt l.prog w K mg base CF 7 fG1 _ "box" ["self", "index"] (spBox CS CF) := ⟨MG1, ok_box FG1 FC MKS D1, bG1⟩
  have MSU : Mt l.prog w K mg base CF 7 fG0 _ "source" ["self", "name"] (spSrcU K CS CF) := ⟨MG0, FnOk.or (ok_source FG0 FC MKS D13) (ok_sourceO FG0 MKS D13), bG0⟩
  have MBU : Mt l.prog w K mg base CF 7 fG1 _ "box" ["self", "index"] (spBoxU K CS CF) := ⟨MG1, FnOk.or (ok_box FG1 FC MKS D1) (ok_boxO FG1 MKS D1), bG1⟩
  have MBool : OwnX.OMt l.prog w K mg base CF 1 fG5 _ "__bool__" ["self"] (spBoolF CS CF) := ⟨MG5, ok_boolF FG5 FC, bG5⟩
  have MEq : OwnX.OMt l.prog w K mg base CF 4 fG4 _ "__eq__" frmOp (spEqFB CS CF) := ⟨MG4, ok_eqFB FG4 FC INF INS pNf m_CF m_isinstance OE, bG4⟩
  have MRepr : OwnX.OMt l.prog w K mg base CF 2 fG6 _ "__repr__" ["self"] (spReprF CS CF) := ⟨MG6, ok_reprF FG6 FC m_len MSs, bG6⟩
  have D17 : Df l.prog w K mg base 1 f17 _ "_law_bag" ["_law_script"] (spBag K) := ⟨ok_bag F17 m_len m_list, b17, k17, m17⟩
  have D18 : Df l.prog w K mg base 1 f18 _ "_law_pull" ["_law_bag_here", "_law_many"] spPull := ⟨ok_pull F18 m_len m_int, b18, k18, m18⟩
  have D19 : Df l.prog w K mg base 2 f19 _ "_law_any" ["_law_bag_here", "_law_things"] (spAny K) := ⟨ok_any F19 D18.ok b18 k18 m18 m_len, b19, k19, m19⟩
  have D20 : Df l.prog w K mg base 4 f20 _ "_law_same" ["_law_found", "_law_due"] (spSame 4) := ⟨all_same F20 SX b20 m20 4, b20, k20, m20⟩
  have D23 : Df l.prog w K mg base 3 f23 _ "_law_names" ["_law_bag_here", "_law_many"] spNames := ⟨ok_names F23 D18.ok b18 k18 m18 D19.ok b19 k19 m19 m_len m_int m_range, b23, k23, m23⟩
  have D24 : Df l.prog w K mg base 2 f24 _ "_law_mixed" ["_law_bag_here", "_law_things"] (spMixed K) := ⟨ok_mixed F24 D18 m_len, b24, k24, m24⟩
  have D25 : Df l.prog w K mg base 3 f25 _ "_law_odd" ["_law_bag_here", "_law_more"] spOdd := ⟨ok_odd F25 D19, b25, k25, m25⟩
  have D26 : Df l.prog w K mg base 1 f26 _ "_law_trim" ["_law_cells_here"] (spTrimL K) := ⟨ok_trimL F26 LT, b26, k26, m26⟩
  have D27 : Df l.prog w K mg base 2 f27 _ "_law_times" ["_law_one", "_law_other"] (spTimesL K) := ⟨ok_timesL F27 LT D26, b27, k27, m27⟩
  have D28 : Df l.prog w K mg base 2 f28 _ "_law_plus" ["_law_one", "_law_other", "_law_factor"] (spPlusL K) := ⟨ok_plusL F28 LT D26, b28, k28, m28⟩
  have D29 : Df l.prog w K mg base 2 f29 _ "_law_cells" ["_law_bag_here", "_law_many", "_law_wide"] spCellsL := ⟨ok_cellsL F29 LT D18, b29, k29, m29⟩
  have D30 : Df l.prog w K mg base 3 f30 _ "_law_pair" ["_law_bag_here", "_law_many", "_law_wide"] spPairL := ⟨ok_pairL F30 D18 D29, b30, k30, m30⟩
  have D31 : Df l.prog w K mg base 2 f31 _ "_law_rest" ["_law_one", "_law_other"] (spRestL K) := ⟨ok_restL F31 LT D26, b31, k31, m31⟩
  have D32 : Df l.prog w K mg base 3 f32 _ "_law_coprime" ["_law_one", "_law_other"] (spCopL K) := ⟨ok_copL F32 LT D26 D31, b32, k32, m32⟩
  have D33 : Df l.prog w K mg base 4 f33 _ "_law_series_so" ["_law_found", "_law_pair_here"] (spSoL K CS) := ⟨ok_soL F33 LT SC MT MB D26 D27 D32, b33, k33, m33⟩
  have D34 : Df l.prog w K mg base 1 f34 _ "_law_order" ["_law_top"] (spOrderL K) := ⟨ok_orderL F34 LT, b34, k34, m34⟩
  have D35 : Df l.prog w K mg base 7 f35 _ "_law_leaf_form" ["_law_pairs", "_law_boxes_z"] (spLeaf CS CF) := ⟨ok_leaf F35 MKS MKF m_sorted, b35, k35, m35⟩
  have D36 : Df l.prog w K mg base 4 f36 _ "_law_quotients" ["_law_bag_here", "_law_names_here", "_law_indexes"] (spQuot K) := ⟨ok_quot F36 D18 D30, b36, k36, m36⟩
  have D37 : Df l.prog w K mg base 8 f37 _ "_law_leaf_so" ["_law_form", "_law_names_here", "_law_indexes", "_law_model"] (spLeafSo K CS CF) := ⟨ok_leafSo F37 FC m_sorted D33 D26 D20 MSs MBs MSo MBo, b37, k37, m37⟩
  have D38 : Df l.prog w K mg base 8 f38 _ "_law_form_copies" ["_law_name_z"] (spCopies CS CF) := ⟨ok_copies F38 FC SC MKS MKF D20 MT MSs MBs MSo MBo, b38, k38, m38⟩
  exact ok_law ll cl ⟨LT, m_sorted, m_str, m_repr, m_dict, SC, FC, INF, INS, m_CF, ⟨_, _, _, _, MKS⟩, ⟨_, _, MKF, MKB, ⟨_, kF1⟩, kF2⟩, ⟨_, _, D17⟩, ⟨_, _, D18⟩, ⟨_, _, D19⟩, ⟨_, _, D20⟩, ⟨_, _, D23⟩, ⟨_, _, D24⟩, ⟨_, _, D36⟩, ⟨_, _, D35⟩, ⟨_, _, D37⟩, ⟨_, _, D26⟩, ⟨_, _, D34⟩, ⟨_, _, D25⟩, ⟨_, _, D28⟩, ⟨_, _, D38⟩, ⟨_, _, MSU, kbSo⟩, ⟨_, _, MBU, kbBo⟩, ⟨_, _, MSs⟩, ⟨_, _, MBs⟩, ⟨_, _, MEq⟩, ⟨_, _, OE⟩, ⟨_, _, MBool⟩, ⟨_, _, OB⟩, ⟨_, _, MRepr⟩, neFS, hsubFS, erZ, l21, c21, b21, m21, k21, ok_fieldE F22, b22, k22, m22, m_U, m_MM, m_NL⟩ TB
theorem walk {l : PySem.W.OpenLaw} {q : Program} {loose : List Str} {XP : (Str → Option Value) → Heap → Prop} {YP : World → Heap → Prop} {d : DefRec} {K : Params → PySem.W.Frag} {c0 P0 : Addr} (hn : l.most = some 63) (hdf : d.params.defaults = [])
    (hY : ∀ (w : World) (h : Heap), YP w h → (K w.params).In h) (hT : ∀ (w : World) (h : Heap), YP w h → h.get? P0 = some { cls := .none, data := .fields #[] }) (nT : ∀ P : Params, (K P).lookup P0 = none) (hC : ∀ (w : World) (h : Heap), (K w.params).In h → PySem.W.CodeHd h c0 P0)
    (F : ∀ (w : World) (mg : Str → Option Value) (fa : Addr) (h : Heap), (K w.params).In h → h.Ns mainGlobals mg → mg d.name = some (.ref fa) →
      ∃ fd : FuncData, (∀ (s : Shared) (u : Value), BindsTo s fd ⟨[u], []⟩ [("_law_script", u)]) ∧ ∀ base : Heap, (K w.params).In base → base.Ns mainGlobals mg → LamX.TabB base mg c0 P0 → FnOk l.prog w (K w.params) mg base CX0 15 fa fd ["_law_script"] (spLawT (K w.params) P0)) :
    PySem.W.WalkO q loose XP YP l.row.toRowW d [] (fun f vs => PySem.call f vs) := by
  refine LamX.walk_ofTs (n := 63) (k := 15) (x := "_law_script") (CX := fun _ => CX0) hn (by decide) hdf ⟨rfl, by decide, by decide⟩ hY (fun w mg fa h Y KX G hm => ?_) fun _ _ _ _ _ z => z
  obtain ⟨fd, hb, hF⟩ := F w mg fa h KX G hm
  refine ⟨fd, [(c0, P0)], spLawT (K w.params) P0, fun p hp => ?_, fun p hp => ?_, fun p hp => ?_, hb, fun H a ns hl _ hP hS => ⟨a, ns, rfl, hS, hl, hP (c0, P0) (List.mem_singleton.mpr rfl), fun _ => rfl⟩, fun base hK hN hTB => hF base hK hN (hTB (c0, P0) (List.mem_singleton.mpr rfl))⟩
  · rw [List.mem_singleton.mp hp]
    exact hT w h Y
  · rw [List.mem_singleton.mp hp]
    exact nT w.params
  · rw [List.mem_singleton.mp hp]
    exact hC w h KX
end
end Un
open PySem PySem.W PyProof.Rows
set_option maxRecDepth 100000 in
set_option maxHeartbeats 0 in
theorem PySem.Challenge.cw_unopened_k27_forms_told_and_refused_holds : PySem.Challenge.rw_unopened_k27_forms_told_and_refused.Holds := by
  w_on; o_law; k_head; (case hw => w_witness2)
  k_fill
  refine Un.walk (l := PySem.Challenge.rw_unopened_k27_forms_told_and_refused) (c0 := 737) (P0 := 735) rfl rfl (fun w h Y => PySem.W.km_in_of Y) (fun w h Y => PySem.W.km_tabs_of Y _ (List.mem_singleton.mpr rfl)) (fun P => by kernel_rfl) (fun w h KX => PySem.W.codeHd_of_K (c := 737) (P := 735) KX (by kernel_rfl)) ?F
  case F =>
    intro w mg fa h KX G hmg
    refine' Un.all_mk KX G hmg ?a1 ?l1 ?c1 ?k1 ?a2 ?l2 ?c2 ?k2 ?a3 ?l3 ?c3 ?k3 ?a4 ?l4 ?c4 ?k4 ?a5 ?l5 ?c5 ?k5 ?a6 ?l6 ?c6 ?k6 ?a7 ?l7 ?c7 ?k7 ?a8 ?l8 ?c8 ?k8 ?a9 ?l9 ?c9 ?k9 ?a10 ?l10 ?c10 ?k10 ?a11 ?l11 ?c11 ?k11 ?a12 ?l12 ?c12 ?k12 ?a13 ?l13 ?c13 ?k13 ?a14 ?l14 ?c14 ?k14 ?a15 ?l15 ?c15 ?k15 ?a16 ?l16 ?c16 ?k16 ?a17 ?l17 ?c17 ?k17 ?a18 ?l18 ?c18 ?k18 ?a19 ?l19 ?c19 ?k19 ?a20 ?l20 ?c20 ?k20 ?a21 ?l21 ?c21 ?k21 ?a22 ?l22 ?c22 ?k22 ?a23 ?l23 ?c23 ?k23 ?a24 ?l24 ?c24 ?k24 ?a25 ?l25 ?c25 ?k25 ?a26 ?l26 ?c26 ?k26 ?a27 ?l27 ?c27 ?k27 ?a28 ?l28 ?c28 ?k28 ?a29 ?l29 ?c29 ?k29 ?a30 ?l30 ?c30 ?k30 ?a31 ?l31 ?c31 ?k31 ?a32 ?l32 ?c32 ?k32 ?a33 ?l33 ?c33 ?k33 ?a34 ?l34 ?c34 ?k34 ?a35 ?l35 ?c35 ?k35 ?a36 ?l36 ?c36 ?k36 ?a37 ?l37 ?c37 ?k37 ?a38 ?l38 ?c38 ?k38 ?al ?ll ?cl ?kl ?z_isinstance ?z_str ?z_int ?z_bool ?z_len ?z_all ?z_list ?z_tuple ?z_dict ?z_sorted ?z_zip ?z_range ?z_enumerate ?z_max ?z_min ?z_reversed ?z_any ?z_repr ?e_SPARE_BITS ?e_MOST_BEATS ?e_LETTERS ?e_LONGEST_NAME ?e_gcd ?a_CS ?pgCS ?hdCS ?poCS ?saCS ?mkCS ?kpCS ?ci_CS ?noCS_top ?noCS_bottom ?noCSorder ?pIa ?pIb ?pIc ?pId ?pIe ?pIf ?pIg ?aI ?nI ?lI ?cI ?kI ?tI ?tD ?aS0 ?nS0 ?lS0 ?cS0 ?kS0 ?aS1 ?nS1 ?lS1 ?cS1 ?kS1 ?aS2 ?nS2 ?lS2 ?cS2 ?kS2 ?aS3 ?nS3 ?lS3 ?cS3 ?kS3 ?uU ?uMM ?uNL ?hZ ?noZ_order ?noZ_value ?exZ ?moCS ?a_CF ?pgCF ?hdCF ?poCF ?saCF ?mkCF ?kpCF ?ci_CF ?noCF_sources ?noCF_boxes ?noCForder ?moCF ?pJa ?pJd ?pJe ?pJf ?pJg ?pNa ?pNb ?pNc ?pNf ?aIF ?nIF ?lIF ?cIF ?kIF ?tIF ?aG0 ?nG0 ?lG0 ?cG0 ?kG0 ?aG1 ?nG1 ?lG1 ?cG1 ?kG1 ?aG2 ?nG2 ?lG2 ?cG2 ?kG2 ?aG3 ?nG3 ?lG3 ?cG3 ?kG3 ?aG4 ?nG4 ?lG4 ?cG4 ?kG4 ?aG5 ?nG5 ?lG5 ?cG5 ?kG5 ?aG6 ?nG6 ?lG6 ?cG6 ?kG6 ?neFS ?hsubFS
    (case a1 => k_is)
    (case l1 => k_is)
    (case c1 => k_is)
    (case k1 => k_is)
    (case a2 => k_is)
    (case l2 => k_is)
    (case c2 => k_is)
    (case k2 => k_is)
    (case a3 => k_is)
    (case l3 => k_is)
    (case c3 => k_is)
    (case k3 => k_is)
    (case a4 => k_is)
    (case l4 => k_is)
    (case c4 => k_is)
    (case k4 => k_is)
    (case a5 => k_is)
    (case l5 => k_is)
    (case c5 => k_is)
    (case k5 => k_is)
    (case a6 => k_is)
    (case l6 => k_is)
    (case c6 => k_is)
    (case k6 => k_is)
    (case a7 => k_is)
    (case l7 => k_is)
    (case c7 => k_is)
    (case k7 => k_is)
    (case a8 => k_is)
    (case l8 => k_is)
    (case c8 => k_is)
    (case k8 => k_is)
    (case a9 => k_is)
    (case l9 => k_is)
    (case c9 => k_is)
    (case k9 => k_is)
    (case a10 => k_is)
    (case l10 => k_is)
    (case c10 => k_is)
    (case k10 => k_is)
    (case a11 => k_is)
    (case l11 => k_is)
    (case c11 => k_is)
    (case k11 => k_is)
    (case a12 => k_is)
    (case l12 => k_is)
    (case c12 => k_is)
    (case k12 => k_is)
    (case a13 => k_is)
    (case l13 => k_is)
    (case c13 => k_is)
    (case k13 => k_is)
    (case a14 => k_is)
    (case l14 => k_is)
    (case c14 => k_is)
    (case k14 => k_is)
    (case a15 => k_is)
    (case l15 => k_is)
    (case c15 => k_is)
    (case k15 => k_is)
    (case a16 => k_is)
    (case l16 => k_is)
    (case c16 => k_is)
    (case k16 => k_is)
    (case a17 => k_is)
    (case l17 => k_is)
    (case c17 => k_is)
    (case k17 => k_is)
    (case a18 => k_is)
    (case l18 => k_is)
    (case c18 => k_is)
    (case k18 => k_is)
    (case a19 => k_is)
    (case l19 => k_is)
    (case c19 => k_is)
    (case k19 => k_is)
    (case a20 => k_is)
    (case l20 => k_is)
    (case c20 => k_is)
    (case k20 => k_is)
    (case a21 => k_is)
    (case l21 => k_is)
    (case c21 => k_is)
    (case k21 => k_is)
    (case a22 => k_is)
    (case l22 => k_is)
    (case c22 => k_is)
    (case k22 => k_is)
    (case a23 => k_is)
    (case l23 => k_is)
    (case c23 => k_is)
    (case k23 => k_is)
    (case a24 => k_is)
    (case l24 => k_is)
    (case c24 => k_is)
    (case k24 => k_is)
    (case a25 => k_is)
    (case l25 => k_is)
    (case c25 => k_is)
    (case k25 => k_is)
    (case a26 => k_is)
    (case l26 => k_is)
    (case c26 => k_is)
    (case k26 => k_is)
    (case a27 => k_is)
    (case l27 => k_is)
    (case c27 => k_is)
    (case k27 => k_is)
    (case a28 => k_is)
    (case l28 => k_is)
    (case c28 => k_is)
    (case k28 => k_is)
    (case a29 => k_is)
    (case l29 => k_is)
    (case c29 => k_is)
    (case k29 => k_is)
    (case a30 => k_is)
    (case l30 => k_is)
    (case c30 => k_is)
    (case k30 => k_is)
    (case a31 => k_is)
    (case l31 => k_is)
    (case c31 => k_is)
    (case k31 => k_is)
    (case a32 => k_is)
    (case l32 => k_is)
    (case c32 => k_is)
    (case k32 => k_is)
    (case a33 => k_is)
    (case l33 => k_is)
    (case c33 => k_is)
    (case k33 => k_is)
    (case a34 => k_is)
    (case l34 => k_is)
    (case c34 => k_is)
    (case k34 => k_is)
    (case a35 => k_is)
    (case l35 => k_is)
    (case c35 => k_is)
    (case k35 => k_is)
    (case a36 => k_is)
    (case l36 => k_is)
    (case c36 => k_is)
    (case k36 => k_is)
    (case a37 => k_is)
    (case l37 => k_is)
    (case c37 => k_is)
    (case k37 => k_is)
    (case a38 => k_is)
    (case l38 => k_is)
    (case c38 => k_is)
    (case k38 => k_is)
    (case al => k_is)
    (case ll => k_is)
    (case cl => k_is)
    (case kl => k_is)
    (case z_isinstance => k_is)
    (case z_str => k_is)
    (case z_int => k_is)
    (case z_bool => k_is)
    (case z_len => k_is)
    (case z_all => k_is)
    (case z_list => k_is)
    (case z_tuple => k_is)
    (case z_dict => k_is)
    (case z_sorted => k_is)
    (case z_zip => k_is)
    (case z_range => k_is)
    (case z_enumerate => k_is)
    (case z_max => k_is)
    (case z_min => k_is)
    (case z_reversed => k_is)
    (case z_any => k_is)
    (case z_repr => k_is)
    (case e_SPARE_BITS => k_is)
    (case e_MOST_BEATS => k_is)
    (case e_LETTERS => k_is)
    (case e_LONGEST_NAME => k_is)
    (case e_gcd => k_is)
    (case a_CS => k_is)
    (case pgCS => k_is)
    (case hdCS => k_is)
    (case poCS => k_is)
    (case saCS => k_is)
    (case mkCS => k_is)
    (case kpCS => k_is)
    (case ci_CS => first | k_is | exact rfl | kernel_rfl)
    (case noCS_top => k_is)
    (case noCS_bottom => k_is)
    (case noCSorder => k_is)
    (case pIa => first | k_is | exact rfl | kernel_rfl)
    (case pIb => first | k_is | exact rfl | kernel_rfl)
    (case pIc => first | k_is | exact rfl | kernel_rfl)
    (case pId => first | k_is | exact rfl | kernel_rfl)
    (case pIe => first | k_is | exact rfl | kernel_rfl)
    (case pIf => first | k_is | exact rfl | kernel_rfl)
    (case pIg => first | k_is | exact rfl | kernel_rfl)
    (case aI => k_is)
    (case nI => k_is)
    (case lI => k_is)
    (case cI => k_is)
    (case kI => k_is)
    (case tI => k_is)
    (case tD => k_is)
    (case aS0 => k_is)
    (case nS0 => k_is)
    (case lS0 => k_is)
    (case cS0 => k_is)
    (case kS0 => k_is)
    (case aS1 => k_is)
    (case nS1 => k_is)
    (case lS1 => k_is)
    (case cS1 => k_is)
    (case kS1 => k_is)
    (case aS2 => k_is)
    (case nS2 => k_is)
    (case lS2 => k_is)
    (case cS2 => k_is)
    (case kS2 => k_is)
    (case aS3 => k_is)
    (case nS3 => k_is)
    (case lS3 => k_is)
    (case cS3 => k_is)
    (case kS3 => k_is)
    (case uU => k_is)
    (case uMM => k_is)
    (case uNL => k_is)
    (case hZ => refine' Un.cx0 ?a1 ?a2 ?a3 ?a4 ?a5 ?a6 ?a7 ?a8 ?a9 ?b1 ?b2 ?b3 ?b4; (case a1 => k_is); (case a2 => k_is); (case a3 => k_is); (case a4 => k_is); (case a5 => k_is); (case a6 => k_is); (case a7 => k_is); (case a8 => k_is); (case a9 => k_is); (case b1 => k_is); (case b2 => k_is); (case b3 => k_is); (case b4 => k_is))
    (case noZ_order => k_is)
    (case noZ_value => k_is)
    (case exZ => first | k_is | exact rfl | kernel_rfl)
    (case moCS => exact rfl)
    (case a_CF => k_is)
    (case pgCF => k_is)
    (case hdCF => k_is)
    (case poCF => k_is)
    (case saCF => k_is)
    (case mkCF => k_is)
    (case kpCF => k_is)
    (case ci_CF => first | k_is | exact rfl | kernel_rfl)
    (case noCF_sources => k_is)
    (case noCF_boxes => k_is)
    (case noCForder => k_is)
    (case moCF => exact rfl)
    (case pJa => first | k_is | exact rfl | kernel_rfl)
    (case pJd => first | k_is | exact rfl | kernel_rfl)
    (case pJe => first | k_is | exact rfl | kernel_rfl)
    (case pJf => first | k_is | exact rfl | kernel_rfl)
    (case pJg => first | k_is | exact rfl | kernel_rfl)
    (case pNa => first | k_is | exact rfl | kernel_rfl)
    (case pNb => first | k_is | exact rfl | kernel_rfl)
    (case pNc => first | k_is | exact rfl | kernel_rfl)
    (case pNf => first | k_is | exact rfl | kernel_rfl)
    (case aIF => k_is)
    (case nIF => k_is)
    (case lIF => k_is)
    (case cIF => k_is)
    (case kIF => k_is)
    (case tIF => k_is)
    (case aG0 => k_is)
    (case nG0 => k_is)
    (case lG0 => k_is)
    (case cG0 => k_is)
    (case kG0 => k_is)
    (case aG1 => k_is)
    (case nG1 => k_is)
    (case lG1 => k_is)
    (case cG1 => k_is)
    (case kG1 => k_is)
    (case aG2 => k_is)
    (case nG2 => k_is)
    (case lG2 => k_is)
    (case cG2 => k_is)
    (case kG2 => k_is)
    (case aG3 => k_is)
    (case nG3 => k_is)
    (case lG3 => k_is)
    (case cG3 => k_is)
    (case kG3 => k_is)
    (case aG4 => k_is)
    (case nG4 => k_is)
    (case lG4 => k_is)
    (case cG4 => k_is)
    (case kG4 => k_is)
    (case aG5 => k_is)
    (case nG5 => k_is)
    (case lG5 => k_is)
    (case cG5 => k_is)
    (case kG5 => k_is)
    (case aG6 => k_is)
    (case nG6 => k_is)
    (case lG6 => k_is)
    (case cG6 => k_is)
    (case kG6 => k_is)
    (case neFS => decide)
    (case hsubFS => first | k_is | exact rfl | kernel_rfl)
