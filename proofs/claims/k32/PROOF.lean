import PyProof.Rows.All
import Wide.All
import OpenK.AllK
import Wide.FinOn
import HandS.Base
import HandS.Call
import HandS.List
import HandS.Comp
import HandS.Ends
import HandS.Dict
import HandS.Iter
import HandS.Text
import HandS.Words
import HandS.WordsList
import HandS.Exc
import HandS.TryOnly
import HandS.ExcOwn
import HandS.IsInst
import HandS.Zip
import HandS.Walk
import HandS.Wide
import HandS.Flow
import HandS.Style
import HandS.FStr
import HandS.StrMore
import HandS.Star
import HandS.Conv
import PyProof.ReprRoads
import PyProof.SetRoads
import HandS.ExcIs
import KE.KTryMore
import HandS.WordsExc
import HandS.ExcValue
import HandS.Flt
import HandS.AnyAll
import HandS.EndOwn
import HandS.NoneIn
import KE.KDictIter
import PySem.Challenge.RW_pleatpunch_k32_worths_of_stretches
set_option Elab.async false
set_option linter.all false
set_option maxRecDepth 100000
set_option maxHeartbeats 4000000

namespace Xi
open PySem PySem.Spec PyProof.Rows L2

/-! ## room for calls, and nothing is being written out -/
structure Rm (k : Nat) (A : Around) : Prop where
  g : A.guards = some []
  r : Room k A
theorem Rm.mono {j k : Nat} {A : Around} (h : Rm k A) (l : j ≤ k) : Rm j A := ⟨h.g, h.r.mono l⟩

/-- what a def keeps, where nothing is being written out -/
structure Dok (P : Program) (w : World) (K : PySem.W.Frag) (mg : Str → Option Value) (base : Heap) (CX : CXT) (k : Nat) (f : Addr) (fd : FuncData) (ps : List Str) (sp : Sp) : Prop where
  len : ∀ vs H Q E, sp vs H Q E → vs.length = ps.length
  run : ∀ (A : Around) (outer : List Env) (s : Shared) (H : Hp) (args : Args) (us : List Value) (vs : List V) (Q : VK) (E : XK),
    Rm k A → Env0 P w K mg base A outer s H → BindsTo s fd args (ps.zip us) → Vals vs us → sp vs H Q E → codeAny (model P w) A (.call (.ref f) args) (CR CX outer P w H s Q E) s

section
variable {P : Program} {w : World} {K : PySem.W.Frag} {mg : Str → Option Value} {base : Heap} {CX : CXT} {k j : Nat} {f : Addr} {fd : FuncData} {ps : List Str} {sp sp' : Sp}
theorem Dok.mono (F : Dok P w K mg base CX j f fd ps sp) (h : j ≤ k) : Dok P w K mg base CX k f fd ps sp :=
  ⟨F.len, fun A outer s H args us vs Q E hr => F.run A outer s H args us vs Q E (hr.mono h)⟩
theorem Dok.imp (F : Dok P w K mg base CX k f fd ps sp) (h : ∀ vs H Q E, sp' vs H Q E → sp vs H Q E) : Dok P w K mg base CX k f fd ps sp' :=
  ⟨fun vs H Q E q => F.len vs H Q E (h _ _ _ _ q), fun A outer s H args us vs Q E hr he hb hv hs => F.run A outer s H args us vs Q E hr he hb hv (h _ _ _ _ hs)⟩

theorem Dok.body {x qual : Str} {st : Stmt} {N : List Str} (F : Fun K x qual st f fd) (S : FnScope N ps (defScope st)) (len : ∀ vs H Q E, sp vs H Q E → vs.length = ps.length)
    (hb : ∀ (cdv : Value) (A : Around) (outer : List Env) (s : Shared) (H : Hp) (vs : List V) (Q : VK) (E : XK), Rm k (A.deeper (envOfC qual (defScope st) s.heap.objs.size f cdv)) → sp vs H Q E →
      ∃ t, PSs (cxOf CX P w K mg base N qual (defScope st) f cdv A outer s H E) (defBody st) t ∧ t { nx := fun _ H' => Q .non H', rt := Q } (start N vs) H) : Dok P w K mg base CX (k + 1) f fd ps sp := by
  obtain ⟨oc, od, kV, doc, pm, an, cdv, ct, osl, rfl, lk, hcd⟩ := F.ex
  constructor
  · exact len
  intro A outer s H args us vs Q E hr e0 hbd r hsp
  have hl := len _ _ _ _ hsp
  have KX : K.In s.heap := e0.mod.kin.keeps fun b o e => (e0.bs b o e).1
  have lim := e0.mod.nolimit.keeps (h' := s.heap) fun b o e => (e0.bs b o e).1
  have hkind : ∀ y ∈ ps.zip us, (defScope st).names.lookup y.1 = some .local ∨ ((defScope st).names.lookup y.1 = some .cell ∧ ((cellsFrom (s.heap.objs.size + 1) (defScope st).names []).lookup y.1).isSome = true) := by
    rintro ⟨n, v⟩ hy
    have q := S.par n (List.of_mem_zip hy).1
    cases q with
    | inl q => exact Or.inl q
    | inr q => exact Or.inr ⟨q, PySem.W.cellsFrom_some _ _ _ (Or.inl q)⟩
  refine codeAny_call_function hr.r.depth (KX _ _ lk) rfl S.co S.gen rfl (PySem.W.codeRec_of KX hcd) (hbd _ _ _ _ ?_)
  refine wpAny_newFunctionEnv_cells S.kind hkind ?_
  intro env he s1 x
  subst he
  refine ⟨lim.keeps x.toInCall.keep, ?_⟩
  refine codeAny_func ?_
  obtain ⟨t, ht, hq⟩ := hb cdv A outer s H vs Q E ⟨hr.g, hr.r.deeper _⟩ hsp
  have I := inv_start (CX := CX) (P := P) (w := w) (K := K) (mg := mg) (base := base) (f := f) (E := E) S hr.r.hd e0 hl r x
  refine wpAny_mono (ht.run [] s1 (start N vs) H _ I hq) ?_ fun e s' hs => hs
  intro fl s' hs
  cases fl with
  | ret u =>
    obtain ⟨v, σ', H', J, rv, q⟩ := hs
    exact ⟨v, H', J.os, J.bare, J.base, J.hok, rv, q⟩
  | next =>
    obtain ⟨σ', H', J, q⟩ := hs
    exact ⟨V.non, H', J.os, J.bare, J.base, J.hok, rfl, q⟩
  | brk =>
    obtain ⟨_, _, _, q⟩ := hs
    exact q.elim
  | cont =>
    obtain ⟨_, _, _, q⟩ := hs
    exact q.elim
end

/-! ## calls -/
section
variable {X : Cx} {CX : CXT} {k : Nat} {f C : Addr} {fd : FuncData} {ps : List Str} {sp : Sp} {dvs : List V} {ds : List Value} {E : XK} {x m : Str} {p pos apos : Pos} {e o : Expr} {es : List Expr} {ta : TE} {t tk : TA} {kws : List Keyword} {ks : List Str}
  {g : List Value → List Value → List Value} {gV : List V → List V → List V}
theorem Dok.after (F : Dok X.prog X.w X.K X.mg X.base CX k f fd ps sp) (hr : Rm k X.A) (hx : Passes CX X E) {pins : List (Addr × Obj)} {σ : L2.St} {H : Hp} {s : Shared} {Q : VK} {args : Args} {us : List Value} {vs : List V}
    (I : Inv X pins σ H s) (r : Vals vs us) (hb : BindsTo s fd args (ps.zip us)) (h : sp vs H Q E) : codeAny (model X.prog X.w) X.A (.call (.ref f) args) (fun r s' => match r with | .ok (.ret u) => EP X pins σ Q u s' | .ok _ => False | .error e => X.xe e s') s := by
  refine codeAny_mono (F.run X.A X.stack s H args us vs Q E hr I.env0 hb r h) ?_
  intro r s' hq
  cases r with
  | error e => exact hx pins σ H s e s' I hq
  | ok fl =>
    cases fl with
    | ret u => exact I.after hq
    | next => exact hq.elim
    | brk => exact hq.elim
    | cont => exact hq.elim
theorem ends {M : Model} {A : Around} {Q E : Value → Shared → Prop} {v : Value} {us : List Value} {kw : List (Str × Value)} {s : Shared}
    (h : codeAny M A (.call v ⟨us, kw⟩) (fun r s' => match r with | .ok (.ret u) => Q u s' | .ok _ => False | .error e => E e s') s) : wpAny M A (call v us kw) Q E s := by
  refine wpAny_call (codeAny_mono h ?_)
  intro r s' hq
  cases r with
  | error e => exact hq
  | ok fl => cases fl <;> exact hq
/-- f(a, ..) -/
theorem d_call (F : Dok X.prog X.w X.K X.mg X.base CX k f fd ps sp) (hr : Rm k X.A) (hg : Gl X x) (hm : X.mg x = some (.ref f)) (hk : PySem.W.keepIn X.K (.ref f) = true) (hb : Binds X.K fd ps ds) (hd : Vals dvs ds) (hx : Passes CX X E)
    (ha : PA X (e :: es) t) (hdb : (x == ("__debug__" : Str)) = false := by decide) (he : starEach (e :: es) X.env = (false, eval e X.env) :: starEach es X.env := by rfl) (hpl : (backTo pos (starEach es X.env)).any (·.1) = false := by rfl) :
    PE X (.Call (.Name x p) (e :: es) [] pos) (tCall sp dvs E t) := by
  constructor
  intro pins s σ H Q I h
  refine wpAny_Call_Name_kw (ld_glob I hg hm ?_ hdb)
  refine PySem.W.callWith_K (h₀ := X.base) I.ok.mod.kin hk (thn (ha.run pos pins s σ H _ I h) ?_) he hpl
  rintro us s1 ⟨vs, H1, I1, r, q⟩
  refine ⟨I1.kIn, ?_⟩
  have r2 : Vals (vs ++ dvs) (us ++ ds) := r.append hd
  refine ends (F.after hr hx I1 r2 (hb s1 us I1.kIn ?_) q)
  rw [← r2.length]
  exact F.len _ _ _ _ q
/-- f() -/
theorem d_call0 (F : Dok X.prog X.w X.K X.mg X.base CX k f fd ps sp) (hr : Rm k X.A) (hg : Gl X x) (hm : X.mg x = some (.ref f)) (hk : PySem.W.keepIn X.K (.ref f) = true) (hb : Binds X.K fd ps ds) (hd : Vals dvs ds) (hx : Passes CX X E)
    (hdb : (x == ("__debug__" : Str)) = false := by decide) : PE X (.Call (.Name x p) [] [] pos) (tCall sp dvs E tNil) := by
  constructor
  intro pins s σ H Q I h
  refine wpAny_Call_Name_kw (ld_glob I hg hm ?_ hdb)
  refine PySem.W.callWith_K0 I.kIn hk ?_
  have r2 : Vals ([] ++ dvs) ([] ++ ds) := Vals.append .nil hd
  refine ends (F.after hr hx I r2 (hb s [] I.kIn ?_) h)
  rw [← r2.length]
  exact F.len _ _ _ _ h
/-- f(a, .., k = v, ..) -/
theorem d_callK (F : Dok X.prog X.w X.K X.mg X.base CX k f fd ps sp) (hr : Rm k X.A) (hg : Gl X x) (hm : X.mg x = some (.ref f)) (hk : PySem.W.keepIn X.K (.ref f) = true) (hb : KBinds X.K fd ps ks g gV) (hx : Passes CX X E)
    (ha : PA X (e :: es) t) (hkw : PK X kws tk) (hall : (backToKw pos (keywordEach kws X.env)).all (·.1.isSome) = true := by rfl) (hks : (backToKw pos (keywordEach kws X.env)).filterMap (·.1) = ks := by rfl)
    (hdb : (x == ("__debug__" : Str)) = false := by decide) (he : starEach (e :: es) X.env = (false, eval e X.env) :: starEach es X.env := by rfl)
    (hpl : ((backTo pos (starEach (e :: es) X.env)).any (·.1) || (backToKw pos (keywordEach kws X.env)).any (·.1.isNone)) = false := by rfl) :
    PE X (.Call (.Name x p) (e :: es) kws pos) (tCallK sp gV E t tk) := by
  constructor
  intro pins s σ H Q I h
  refine wpAny_Call_Name_kw (ld_glob I hg hm ?_ hdb)
  refine PySem.W.callWith_KW (h₀ := X.base) I.ok.mod.kin hk hall (thn (ha.run pos pins s σ H _ I h) ?_) hpl he
  rintro us s1 ⟨vs, H1, I1, r, q⟩
  refine thn (hkw.run pos pins s1 σ H1 _ I1 q) ?_
  rintro ws s2 ⟨zs, H2, I2, rz, q2⟩
  refine ⟨I2.kIn, ?_⟩
  rw [hks]
  have r2 := hb.rel r rz
  refine ends (F.after hr hx I2 r2 (hb.to s2 us ws I2.kIn ?_) q2)
  rw [← r2.length]
  exact F.len _ _ _ _ q2
/-- f(k = v, ..) -/
theorem d_callN (F : Dok X.prog X.w X.K X.mg X.base CX k f fd ps sp) (hr : Rm k X.A) (hg : Gl X x) (hm : X.mg x = some (.ref f)) (hk : PySem.W.keepIn X.K (.ref f) = true) (hb : KBinds X.K fd ps ks g gV) (hx : Passes CX X E)
    (hkw : PK X kws tk) (hall : (backToKw pos (keywordEach kws X.env)).all (·.1.isSome) = true := by rfl) (hks : (backToKw pos (keywordEach kws X.env)).filterMap (·.1) = ks := by rfl)
    (hdb : (x == ("__debug__" : Str)) = false := by decide)
    (hpl : ((backTo pos (starEach [] X.env)).any (·.1) || (backToKw pos (keywordEach kws X.env)).any (·.1.isNone)) = false := by rfl) :
    PE X (.Call (.Name x p) [] kws pos) (tCallK sp gV E tNil tk) := by
  constructor
  intro pins s σ H Q I h
  refine wpAny_Call_Name_kw (ld_glob I hg hm ?_ hdb)
  refine PySem.W.callWith_KW0 (h₀ := X.base) I.ok.mod.kin hk hall ?_ hpl
  refine thn (hkw.run pos pins s σ H _ I h) ?_
  rintro ws s2 ⟨zs, H2, I2, rz, q2⟩
  refine ⟨I2.kIn, ?_⟩
  rw [hks]
  have r2 := hb.rel (.nil : Vals [] []) rz
  refine ends (F.after hr hx I2 r2 (hb.to s2 [] ws I2.kIn ?_) q2)
  rw [← r2.length]
  exact F.len _ _ _ _ q2
end
end Xi

namespace Xi
open PySem PySem.Spec PyProof.Rows L2
/-! ## the end: a law's def, called with the script -/
section
variable {P : Program} {w : World} {K : PySem.W.Frag} {mg mb : Str → Option Value} {k : Nat} {fa a : Addr} {fd : FuncData} {x : Str} {sp : Sp} {s : Shared} {us : List Value} {ns : List Int}
theorem at_top (KX : K.In s.heap) (n1 : s.heap.Ns mainGlobals mg) (n2 : s.heap.Ns builtinsNs mb) (n3 : ∀ y : Str, y ≠ "__name__" → mb y = bootBuiltins y) (lim : s.heap.NoLimit) (hg : s.gens = #[]) (hr : Rm k callerA)
    (F : ∀ base : Heap, K.In base → base.Ns mainGlobals mg → Dok P w K mg base CX0 k fa fd [x] sp) (hb : ∀ (s : Shared) (u : Value), BindsTo s fd ⟨[u], []⟩ [(x, u)])
    {H : Hp} (ok : HOk P w H s.heap) (one : ∀ b u, H b = some u → b = a ∧ K.lookup a = none ∧ u = .frz { cls := .type "list", data := .seq us.toArray } (.lst (ns.map V.int)))
    (ha : s.heap.get? a = some { cls := .type "list", data := .seq us.toArray }) (h : sp [.ref a] H (fun v _ => v = .bl true) fun _ _ _ => False) :
    codeAny (model P w) callerA (.call (.ref fa) ⟨[.ref a], []⟩) (fun r s' => r = .ok (.ret (.bool true)) ∧ OldK s.heap s'.heap ∧ s'.os = s.os ∧ AllBare s'.gens) s := by
  have free : ∀ {b : Addr} {o : Obj}, s.heap.get? b = some o → b ≠ a ∨ K.lookup a ≠ none → H b = none := by
    intro b o e d
    cases q : H b with
    | none => rfl
    | some u =>
      obtain ⟨e1, e2, _⟩ := one b u q
      cases d with
      | inl d => exact (d e1).elim
      | inr d => exact (d e2).elim
  have low : ∀ {b : Addr} {o : Obj}, s.heap.get? b = some o → H b = none → (hidT s.heap H).get? b = some o := fun e n => hidT_get e n
  have ns_ : ∀ {b : Addr} {m : Str → Option Value}, s.heap.Ns b m → (hidT s.heap H).Ns b m := by
    rintro b m ⟨o, es, ep, e, d, r⟩
    refine ⟨o, es, ep, low e (free e (.inl ?_)), d, r⟩
    rintro rfl
    rw [ha] at e
    cases e
    cases d
  have kin : K.In (hidT s.heap H) := by
    intro b o e
    refine low (KX b o e) (free (KX b o e) ?_)
    by_cases eb : b = a
    · subst eb
      refine .inr fun z => ?_
      rw [z] at e
      cases e
    · exact .inl eb
  have M : Mod K mg (hidT s.heap H) := by
    obtain ⟨mc, h1, h2⟩ := lim
    exact ⟨kin, ns_ n1, ⟨mb, ns_ n2, n3⟩, ⟨mc, ns_ h1, h2⟩⟩
  have e0 : Env0 P w K mg (hidT s.heap H) callerA [] s H := by
    refine ⟨rfl, M, fun b o e => of_hidT e, Nat.le_of_eq (hidT_size _ _), True.intro, ?_, ok, .of_eq hg⟩
    intro b hb
    cases (show b ∈ ([] : List Addr) from hb)
  refine codeAny_mono ((F _ kin (ns_ n1)).run callerA [] s H ⟨[.ref a], []⟩ [.ref a] [.ref a] _ _ hr e0 (hb s (.ref a)) (.cons rfl .nil) h) ?_
  intro r s' hq
  cases r with
  | error e => exact hq.elim
  | ok fl =>
    cases fl with
    | next => exact hq.elim
    | brk => exact hq.elim
    | cont => exact hq.elim
    | ret u =>
      obtain ⟨v, H', os, bare, un, ok', r', q⟩ := hq
      cases (show v = .bl true from q)
      cases (show u = Value.bool true from r')
      refine ⟨rfl, OldK.of_keep ?_, os, bare⟩
      intro b o e
      cases q2 : H b with
      | none =>
        refine un.keep b o e q2 ?_ ?_ <;> (intro z; cases (show b ∈ ([] : List Addr) from z))
      | some u2 =>
        obtain ⟨rfl, _, rfl⟩ := one b u2 q2
        obtain ⟨e2, _⟩ := ok' b _ (un.frzs b _ _ q2)
        rw [ha] at e
        cases e
        exact e2

/-- the heap in which the script alone is tracked -/
def HScr (a : Addr) (us : List Value) (ns : List Int) : Hp := fun b => if b = a then some (.frz { cls := .type "list", data := .seq us.toArray } (.lst (ns.map V.int))) else none

theorem walkX {l : PySem.W.OpenLaw} {n k : Nat} {q : Program} {loose : List Str} {XP : (Str → Option Value) → Heap → Prop} {YP : World → Heap → Prop} {d : DefRec} {K : Params → PySem.W.Frag} {sp : World → Sp} {x : Str}
    (hn : l.most = some n) (hn2 : n ≤ sizeLine) (hdf : d.params.defaults = []) (hr : Rm k callerA) (hY : ∀ (w : World) (h : Heap), YP w h → (K w.params).In h)
    (F : ∀ (w : World) (mg : Str → Option Value) (fa : Addr) (h : Heap), (K w.params).In h → h.Ns mainGlobals mg → mg d.name = some (.ref fa) →
      ∃ fd : FuncData, (∀ (s : Shared) (u : Value), BindsTo s fd ⟨[u], []⟩ [(x, u)]) ∧ ∀ base : Heap, (K w.params).In base → base.Ns mainGlobals mg → Dok l.prog w (K w.params) mg base CX0 k fa fd [x] (sp w))
    (hsp : ∀ (w : World) (H : Hp) (a : Addr) (ns : List Int), ns.length ≤ n → SqL (K w.params) H a (ns.map V.int) → sp w [.ref a] H (fun v _ => v = .bl true) fun _ _ _ => False) :
    PySem.W.WalkO q loose XP YP l.row.toRowW d [] (fun f vs => PySem.call f vs) := by
  refine Att.attach_call hn hdf ?_
  intro w s₀ s₁ mg mb fa o pm cd doc a vs ns G Y ho hd hcd hmg hobj hints hlen hg
  have KX := hY w _ Y
  obtain ⟨fd, hb, hF⟩ := F w mg fa _ KX G.T.g hmg
  have hl : ns.length ≤ sizeLine := Nat.le_trans hlen hn2
  have rv := vals_ints hints
  have lv := hints.length
  cases hk : (K w.params).lookup a with
  | some ob =>
    have e := KX a ob hk
    rw [hobj] at e
    cases e
    refine at_top (us := vs) (ns := ns) (H := fun _ => none) KX G.T.g G.T.b G.T.builtins G.T.nolimit hg hr hF hb (fun _ _ e => by cases e) (fun _ _ e => by cases e) hobj (hsp w _ a ns hlen ?_)
    exact .inr ⟨_, vs.toArray, _, hk, rfl, rfl, rfl, by rw [List.size_toArray, lv]; exact hl, by simpa using rv⟩
  | none =>
    have at_ : HScr a vs ns a = some (.frz { cls := .type "list", data := .seq vs.toArray } (.lst (ns.map V.int))) := if_pos rfl
    refine at_top (us := vs) (ns := ns) (H := HScr a vs ns) KX G.T.g G.T.b G.T.builtins G.T.nolimit hg hr hF hb ?_ ?_ hobj (hsp w _ a ns hlen (.inl (.inr ⟨_, at_⟩)))
    · intro b u e
      by_cases eb : b = a
      · subst eb
        cases at_.symm.trans e
        exact ⟨hobj, by rw [List.length_map]; exact hl, vs, _, rv, hobj⟩
      · cases (if_neg eb).symm.trans e
    · intro b u e
      by_cases eb : b = a
      · subst eb
        cases at_.symm.trans e
        exact ⟨rfl, hk, rfl⟩
      · cases (if_neg eb).symm.trans e
end
end Xi

namespace Xi
open PySem PySem.Spec PyProof.Rows L2
/-! ## the reel: a list of three ints that is drawn from; n: how many draws it is good for -/
def RB (n : Nat) (x y z : Int) : Prop := 0 ≤ x ∧ 0 ≤ y ∧ y < 2 ^ 200 ∧ 0 ≤ z ∧ z + (n : Int) ≤ 1000000000
theorem RB.less {n m : Nat} {x y z : Int} (h : RB n x y z) (l : m ≤ n) : RB m x y z := by
  obtain ⟨a, b, c, d, e⟩ := h
  exact ⟨a, b, c, d, by omega⟩
def reelL (x y z : Int) : HO := .lst [.int x, .int y, .int z]
def ReelO (n : Nat) (p : Addr) : Heap → Prop := fun h => ∃ (x y z : Int) (t1 t2 t3 : Tok) (k : Nat), h.get? p = some { cls := .type "list", data := .seq #[.int x t1, .int y t2, .int z t3] k } ∧ RB n x y z
def rl (n : Nat) (p : Addr) : HO := .ext (ReelO n p)

theorem three_of {x y z : Int} {its : List Value} (h : Vals [.int x, .int y, .int z] its) : ∃ t1 t2 t3, its = [.int x t1, .int y t2, .int z t3] := by
  cases h with
  | cons a h =>
    cases h with
    | cons b h =>
      cases h with
      | cons c h =>
        cases h
        obtain ⟨t1, rfl⟩ := a
        obtain ⟨t2, rfl⟩ := b
        obtain ⟨t3, rfl⟩ := c
        exact ⟨t1, t2, t3, rfl⟩

section
variable {P : Program} {w : World} {K : PySem.W.Frag} {mg : Str → Option Value} {base : Heap} {k : Nat} {f : Addr} {fd : FuncData} {ps : List Str} {sp spX : Sp} {H H1 : Hp} {h : Heap} {p : Addr} {n : Nat} {x y z : Int}
theorem seen_other {o o' : HO} (ok : HOk P w (upd H p o) h) (n1 : ∀ c, o ≠ .own c) (n2 : ∀ xs, o ≠ .tup xs) (at_ : ObjOk P w (upd H p o') h p o') : HOk P w (upd H p o') h := by
  intro b u e
  by_cases eb : b = p
  · subst eb
    rw [upd_same] at e
    cases e
    exact at_
  · rw [upd_ne eb] at e
    refine (ok b u (by rw [upd_ne eb]; exact e)).stay (fun _ _ _ q => q) ?_ ?_
    · intro c q
      by_cases ec : c = p
      · subst ec
        rw [upd_same] at q
        exact (n1 _ (Option.some.inj q)).elim
      · rw [upd_ne ec] at q ⊢
        exact q
    · intro c xs q
      by_cases ec : c = p
      · subst ec
        rw [upd_same] at q
        exact (n2 _ (Option.some.inj q)).elim
      · rw [upd_ne ec] at q ⊢
        exact q
theorem reel_close (ok : HOk P w (upd H p (reelL x y z)) h) (b : RB n x y z) : HOk P w (upd H p (rl n p)) h := by
  refine seen_other ok (fun _ e => by cases e) (fun _ e => by cases e) ?_
  obtain ⟨_, its, m, r, e⟩ := ok p _ upd_same
  obtain ⟨t1, t2, t3, rfl⟩ := three_of r
  refine ⟨⟨x, y, z, t1, t2, t3, m, e, b⟩, ⟨_, e⟩, ?_⟩
  rintro h1 h2 ⟨x, y, z, t1, t2, t3, m, e, b⟩ st
  exact ⟨x, y, z, t1, t2, t3, m, st _ e, b⟩
theorem reel_open (ok : HOk P w H h) (hp : H p = some (rl n p)) : ∃ x y z, RB n x y z ∧ HOk P w (upd H p (reelL x y z)) h := by
  obtain ⟨⟨x, y, z, t1, t2, t3, m, e, b⟩, _⟩ := ok p _ hp
  have eH : upd H p (rl n p) = H := by
    funext c
    unfold upd
    split
    · rename_i q
      rw [q, hp]
    · rfl
  refine ⟨x, y, z, b, ?_⟩
  rw [← eH] at ok
  refine seen_other ok (fun _ q => by cases q) (fun _ q => by cases q) ?_
  exact ⟨by show 3 ≤ sizeLine; decide, [.int x t1, .int y t2, .int z t3], m, .cons ⟨t1, rfl⟩ (.cons ⟨t2, rfl⟩ (.cons ⟨t3, rfl⟩ .nil)), e⟩
/-- the same objects are tracked, what leans on nothing else as it was -/
structure Vw (H H1 : Hp) : Prop where
  n : ∀ b, H b = none ↔ H1 b = none
  t : ∀ b xs, H b = some (.tup xs) ↔ H1 b = some (.tup xs)
  f : ∀ b o u, H b = some (.frz o u) ↔ H1 b = some (.frz o u)
  c : ∀ b ts, H b = some (.tbl ts) ↔ H1 b = some (.tbl ts)
theorem Vw.of {o o' : HO} (hp : H p = some o) (a : (∀ xs, o ≠ .tup xs) ∧ (∀ q u, o ≠ .frz q u) ∧ ∀ ts, o ≠ .tbl ts) (a' : (∀ xs, o' ≠ .tup xs) ∧ (∀ q u, o' ≠ .frz q u) ∧ ∀ ts, o' ≠ .tbl ts) : Vw H (upd H p o') := by
  have core : ∀ b (u : Option HO), (u ≠ some o) → (u ≠ some o') → (H b = u ↔ upd H p o' b = u) := by
    intro b u h1 h2
    by_cases eb : b = p
    · subst eb
      rw [upd_same, hp]
      exact ⟨fun e => (h1 e.symm).elim, fun e => (h2 e.symm).elim⟩
    · rw [upd_ne eb]
  refine ⟨fun b => core b _ (fun e => by cases e) (fun e => by cases e), fun b xs => core b _ (fun e => a.1 xs ?_) (fun e => a'.1 xs ?_), fun b q u => core b _ (fun e => a.2.1 q u ?_) (fun e => a'.2.1 q u ?_), fun b ts => core b _ (fun e => a.2.2 ts ?_) (fun e => a'.2.2 ts ?_)⟩ <;> exact (Option.some.inj e).symm
theorem Vw.un {fs ex : List Addr} {H2 H3 : Hp} {h' : Heap} (v : Vw H H1) (u : Un fs ex H1 H2 h h') (v' : Vw H2 H3) : Un fs ex H H3 h h' :=
  ⟨fun b o e n => u.keep b o e ((v.n b).mp n), fun b o e n => u.slot b o e ((v.n b).mp n), fun b o e n q => (v'.n b).mp (u.free b o e ((v.n b).mp n) q), u.there,
    fun b xs e => (v'.t b xs).mp (u.tups b xs ((v.t b xs).mp e)), fun b o xs e => (v'.f b o xs).mp (u.frzs b o xs ((v.f b o xs).mp e)), fun b ts e => by
      obtain ⟨more, q⟩ := u.tbls b ts ((v.c b ts).mp e)
      exact ⟨more, (v'.c b _).mp q⟩⟩
theorem vw_refl : Vw H H := ⟨fun _ => Iff.rfl, fun _ _ => Iff.rfl, fun _ _ _ => Iff.rfl, fun _ _ => Iff.rfl⟩
theorem vw_close : Vw (upd H p (reelL x y z)) (upd H p (rl n p)) := by
  have e : upd H p (rl n p) = upd (upd H p (reelL x y z)) p (rl n p) := upd_upd.symm
  rw [e]
  exact Vw.of upd_same ⟨fun _ q => (by cases q), fun _ _ q => (by cases q), fun _ q => (by cases q)⟩ ⟨fun _ q => (by cases q), fun _ _ q => (by cases q), fun _ q => (by cases q)⟩
theorem vw_open (hp : H p = some (rl n p)) : Vw H (upd H p (reelL x y z)) :=
  Vw.of hp ⟨fun _ q => (by cases q), fun _ _ q => (by cases q), fun _ q => (by cases q)⟩ ⟨fun _ q => (by cases q), fun _ _ q => (by cases q), fun _ q => (by cases q)⟩
/-- what a def that hands a reel back, as three ints, is worth to those who see the reel alone -/
def QR (Q : VK) : VK := fun v H' => ∃ (H1 : Hp) (p : Addr) (x y z : Int) (n : Nat), RB n x y z ∧ H' = upd H1 p (reelL x y z) ∧ Q v (upd H1 p (rl n p))
theorem ce_reel {outer : List Env} {H' : Hp} {s s' : Shared} {Q : VK} {u : Value} (v : Vw H H') (c : CE outer P w H' s (QR Q) u s') : CE outer P w H s Q u s' := by
  obtain ⟨x, H2, os, bare, un, ok, r, H3, p, a, b, c, n, bd, rfl, q⟩ := c
  exact ⟨x, _, os, bare, v.un un vw_close, reel_close ok bd, r, q⟩
theorem Dok.made (F : Dok P w K mg base CX0 k f fd ps sp) (hs : ∀ vs H Q E, spX vs H Q E → sp vs H (QR Q) E) : Dok P w K mg base CX0 k f fd ps spX := by
  refine ⟨fun vs H Q E e => F.len _ _ _ _ (hs _ _ _ _ e), ?_⟩
  intro A outer s H args us vs Q E hr e0 hb r e
  refine codeAny_mono (F.run A outer s H args us vs _ E hr e0 hb r (hs _ _ _ _ e)) ?_
  intro r s' hq
  cases r with
  | error e => exact hq
  | ok fl =>
    cases fl with
    | ret u => exact ce_reel vw_refl hq
    | next => exact hq
    | brk => exact hq
    | cont => exact hq
theorem Dok.reel (F : Dok P w K mg base CX0 k f fd ps sp) (len : ∀ vs H Q E, spX vs H Q E → vs.length = ps.length)
    (hs : ∀ vs H Q E, spX vs H Q E → ∃ p n, H p = some (rl n p) ∧ ∀ x y z, RB n x y z → sp vs (upd H p (reelL x y z)) (QR Q) E) : Dok P w K mg base CX0 k f fd ps spX := by
  refine ⟨len, ?_⟩
  intro A outer s H args us vs Q E hr e0 hb r e
  obtain ⟨p, n, hp, hs⟩ := hs _ _ _ _ e
  obtain ⟨x, y, z, bd, ok⟩ := reel_open e0.hok hp
  have v : Vw H (upd H p (reelL x y z)) := vw_open hp
  have e1 : Env0 P w K mg base A outer s (upd H p (reelL x y z)) :=
    ⟨e0.frames, e0.mod, fun b o e => ⟨(e0.bs b o e).1, (v.n b).mp (e0.bs b o e).2⟩, e0.bsz, e0.funs, fun b q => (v.n b).mp (e0.frf b q), ok, e0.bare⟩
  refine codeAny_mono (F.run A outer s _ args us vs _ E hr e1 hb r (hs x y z bd)) ?_
  intro r s' hq
  cases r with
  | error e => exact hq
  | ok fl =>
    cases fl with
    | ret u => exact ce_reel v hq
    | next => exact hq
    | brk => exact hq
    | cont => exact hq
end

/-! ## what stays: all that was tracked; all but the reel at p, which falls from n draws to m -/
theorem same_new {H : Hp} {p : Addr} {o : HO} (h : H p = none) : Same H (upd H p o) := fun b x e => by
  rw [upd_ne (ne_of_none e h)]
  exact e
structure Sr (p : Addr) (n m : Nat) (H H' : Hp) : Prop where
  a : H p = some (rl n p)
  b : H' p = some (rl m p)
  s : ∀ b o, b ≠ p → H b = some o → H' b = some o
theorem rl_ne_lst {n : Nat} {p : Addr} {xs : List V} : rl n p ≠ .lst xs := fun e => by cases e
theorem rl_ne_tup {n : Nat} {p : Addr} {xs : List V} : rl n p ≠ .tup xs := fun e => by cases e
theorem rl_ne_frz {n : Nat} {p : Addr} {o : Obj} {u : HO} : rl n p ≠ .frz o u := fun e => by cases e
section
variable {p q : Addr} {n m k : Nat} {H H' H1 H2 : Hp} {xs : List V} {o : HO}
theorem Sr.of (s : Same H H') (h : H p = some (rl n p)) : Sr p n n H H' := ⟨h, s _ _ h, fun b o _ e => s b o e⟩
theorem Sr.refl (h : H p = some (rl n p)) : Sr p n n H H := .of (Same.refl H) h
theorem Sr.trans (a : Sr p n m H H1) (b : Sr p m k H1 H2) : Sr p n k H H2 := ⟨a.a, b.b, fun c o d e => b.s c o d (a.s c o d e)⟩
theorem Sr.then (a : Sr p n m H H1) (b : Same H1 H2) : Sr p n m H H2 := ⟨a.a, b _ _ a.b, fun c o d e => b c o (a.s c o d e)⟩
theorem Sr.new (a : Sr p n m H H1) (h : H1 q = none) : Sr p n m H (upd H1 q o) := a.then (same_new h)
theorem Sr.free (a : Sr p n m H H1) (h : H1 q = none) : H q = none := by
  cases e : H q with
  | none => rfl
  | some o =>
    have d : q ≠ p := fun d => by
      rw [d, a.b] at h
      cases h
    rw [a.s q o d e] at h
    cases h
/-- an object that was not there is changed -/
theorem Sr.mut (a : Sr p n m H H1) (h : H q = none) : Sr p n m H (upd H1 q o) := by
  have d : p ≠ q := ne_of_none a.a h
  refine ⟨a.a, by rw [upd_ne d]; exact a.b, fun b u e1 e2 => ?_⟩
  rw [upd_ne (ne_of_none e2 h)]
  exact a.s b u e1 e2
theorem Sr.lst (a : Sr p n m H H1) (h : H q = some (.lst xs)) : H1 q = some (.lst xs) := a.s _ _ (ne_of h a.a rl_ne_lst.symm) h
theorem Sr.tup (a : Sr p n m H H1) (h : H q = some (.tup xs)) : H1 q = some (.tup xs) := a.s _ _ (ne_of h a.a rl_ne_tup.symm) h
theorem Sr.seq {K : PySem.W.Frag} (a : Sr p n m H H1) (h : SqL K H q xs) : SqL K H1 q xs := by
  rcases h with (h | ⟨o, h⟩) | h
  · exact .inl (.inl (a.lst h))
  · exact .inl (.inr ⟨o, a.s _ _ (ne_of h a.a rl_ne_frz.symm) h⟩)
  · exact .inr h
theorem same_mut {H0 : Hp} (a : Same H0 H1) (h : H0 q = none) : Same H0 (upd H1 q o) := fun b u e => by
  rw [upd_ne (ne_of_none e h)]
  exact a b u e
end
theorem same_old {H H1 H2 : Hp} {p : Addr} {n m : Nat} (s : Same H H1) (r : Sr p n m H1 H2) (h : H p = none) : Same H H2 := fun b o e =>
  r.s b o (ne_of_none e h) (s b o e)

/-! ## data, all of it tracked -/
mutual
inductive Dt (H : Hp) : V → PyData → Prop
  | non : Dt H .non .none
  | bl (b : Bool) : Dt H (.bl b) (.bool b)
  | int (i : Int) : Dt H (.int i) (.int i)
  | str (x : Str) : Dt H (.str x) (.str x)
  | lst {a : Addr} {xs : List V} {ds : List PyData} : H a = some (.lst xs) → DtAll H xs ds → Dt H (.ref a) (.list ds)
  | tup {a : Addr} {xs : List V} {ds : List PyData} : H a = some (.tup xs) → DtAll H xs ds → Dt H (.ref a) (.tuple ds)
inductive DtAll (H : Hp) : List V → List PyData → Prop
  | nil : DtAll H [] []
  | cons {v : V} {vs : List V} {d : PyData} {ds : List PyData} : Dt H v d → DtAll H vs ds → DtAll H (v :: vs) (d :: ds)
end
section
variable {H H' : Hp}
mutual
theorem Dt.keep (k1 : ∀ b xs, H b = some (.lst xs) → H' b = some (.lst xs)) (k2 : ∀ b xs, H b = some (.tup xs) → H' b = some (.tup xs)) : ∀ {d : PyData} {v : V}, Dt H v d → Dt H' v d
  | .none, _, h => by cases h; exact .non
  | .bool _, _, h => by cases h; exact .bl _
  | .int _, _, h => by cases h; exact .int _
  | .str _, _, h => by cases h; exact .str _
  | .list ds, _, h => by
    cases h with
    | lst e r => exact .lst (k1 _ _ e) (DtAll.keep k1 k2 r)
  | .tuple ds, _, h => by
    cases h with
    | tup e r => exact .tup (k2 _ _ e) (DtAll.keep k1 k2 r)
  | .dict _, _, h => by cases h
theorem DtAll.keep (k1 : ∀ b xs, H b = some (.lst xs) → H' b = some (.lst xs)) (k2 : ∀ b xs, H b = some (.tup xs) → H' b = some (.tup xs)) : ∀ {ds : List PyData} {vs : List V}, DtAll H vs ds → DtAll H' vs ds
  | [], _, h => by cases h; exact .nil
  | d :: ds, _, h => by
    cases h with
    | cons a r => exact .cons (Dt.keep k1 k2 a) (DtAll.keep k1 k2 r)
end
theorem Dt.same {v : V} {d : PyData} (h : Dt H v d) (s : Same H H') : Dt H' v d := h.keep (fun b xs => s b _) fun b xs => s b _
theorem DtAll.same {vs : List V} {ds : List PyData} (h : DtAll H vs ds) (s : Same H H') : DtAll H' vs ds := h.keep (fun b xs => s b _) fun b xs => s b _
theorem Dt.sr {v : V} {d : PyData} {p : Addr} {n m : Nat} (h : Dt H v d) (s : Sr p n m H H') : Dt H' v d := h.keep (fun b xs => s.lst) fun b xs => s.tup
theorem DtAll.sr {vs : List V} {ds : List PyData} {p : Addr} {n m : Nat} (h : DtAll H vs ds) (s : Sr p n m H H') : DtAll H' vs ds := h.keep (fun b xs => s.lst) fun b xs => s.tup
theorem DtAll.len : ∀ {vs : List V} {ds : List PyData}, DtAll H vs ds → vs.length = ds.length
  | _, [], h => by cases h; rfl
  | _, d :: ds, h => by
    cases h with
    | cons a r => simp [DtAll.len r]
theorem DtAll.get : ∀ {vs : List V} {ds : List PyData} {i : Nat} {d : PyData}, DtAll H vs ds → ds[i]? = some d → ∃ v, vs[i]? = some v ∧ Dt H v d
  | _, [], _, _, h, e => by simp at e
  | _, d :: ds, 0, d', h, e => by
    cases h with
    | cons a r =>
      simp at e
      subst e
      exact ⟨_, rfl, a⟩
  | _, d :: ds, i + 1, d', h, e => by
    cases h with
    | cons a r =>
      obtain ⟨v, e1, h1⟩ := DtAll.get (i := i) r (by simpa using e)
      exact ⟨v, by simpa using e1, h1⟩
theorem DtAll.append : ∀ {vs ws : List V} {ds es : List PyData}, DtAll H vs ds → DtAll H ws es → DtAll H (vs ++ ws) (ds ++ es)
  | _, _, [], _, h, g => by cases h; exact g
  | _, _, d :: ds, _, h, g => by
    cases h with
    | cons a r => exact .cons a (DtAll.append r g)
theorem DtAll.take : ∀ {vs : List V} {ds : List PyData} (n : Nat), DtAll H vs ds → DtAll H (vs.take n) (ds.take n)
  | _, _, 0, _ => by simp only [List.take_zero]; exact .nil
  | _, [], _ + 1, h => by cases h; exact .nil
  | _, d :: ds, n + 1, h => by
    cases h with
    | cons a r => exact .cons a (DtAll.take n r)
theorem DtAll.drop : ∀ {vs : List V} {ds : List PyData} (n : Nat), DtAll H vs ds → DtAll H (vs.drop n) (ds.drop n)
  | _, _, 0, h => h
  | _, [], _ + 1, h => by cases h; exact .nil
  | _, d :: ds, n + 1, h => by
    cases h with
    | cons a r => exact DtAll.drop n r
theorem DtAll.one {v : V} {d : PyData} (h : Dt H v d) : DtAll H [v] [d] := .cons h .nil
theorem DtAll.reverse : ∀ {vs : List V} {ds : List PyData}, DtAll H vs ds → DtAll H vs.reverse ds.reverse
  | _, [], h => by cases h; exact .nil
  | _, d :: ds, h => by
    cases h with
    | cons a r =>
      rw [List.reverse_cons, List.reverse_cons]
      exact (DtAll.reverse r).append (.one a)
mutual
theorem Dt.dp {K : PySem.W.Frag} : ∀ {d : PyData} {v : V}, Dt H v d → Dp K H v d
  | .none, _, h => by cases h; exact .non
  | .bool _, _, h => by cases h; exact .bl _
  | .int _, _, h => by cases h; exact .int _
  | .str _, _, h => by cases h; exact .str _
  | .list ds, _, h => by
    cases h with
    | lst e r => exact .lst (SqL.of e) (DtAll.dp r)
  | .tuple ds, _, h => by
    cases h with
    | tup e r => exact .tup (SqT.of e) (DtAll.dp r)
  | .dict _, _, h => by cases h
theorem DtAll.dp {K : PySem.W.Frag} : ∀ {ds : List PyData} {vs : List V}, DtAll H vs ds → DpAll K H vs ds
  | [], _, h => by cases h; exact .nil
  | d :: ds, _, h => by
    cases h with
    | cons a r => exact .cons (Dt.dp a) (DtAll.dp r)
end
end
end Xi

namespace Xi
open PySem PySem.Spec PyProof.Rows L2
/-! ## a def of the text by its name -/
structure Own (K : PySem.W.Frag) (mg : Str → Option Value) (x : Str) (st : Stmt) (ps : List Str) (f : Addr) (fd : FuncData) : Prop where
  F : Fun K x x st f fd
  g : mg x = some (.ref f)
  b : Binds K fd ps []
/-- a def that keeps its promise, by its name -/
def Cal (P : Program) (w : World) (K : PySem.W.Frag) (mg : Str → Option Value) (base : Heap) (CX : CXT) (k : Nat) (x : Str) (st : Stmt) (ps : List Str) (sp : Sp) : Prop :=
  ∃ f fd, Own K mg x st ps f fd ∧ Dok P w K mg base CX k f fd ps sp
section
variable {P : Program} {w : World} {K : PySem.W.Frag} {mg : Str → Option Value} {base : Heap} {CX : CXT} {k j : Nat} {f : Addr} {fd : FuncData} {ps ks N : List Str} {sp sp' : Sp} {x : Str} {st : Stmt}
theorem Cal.mono (c : Cal P w K mg base CX j x st ps sp) (h : j ≤ k) : Cal P w K mg base CX k x st ps sp := by
  obtain ⟨f, fd, o, d⟩ := c
  exact ⟨f, fd, o, d.mono h⟩
theorem Cal.imp (c : Cal P w K mg base CX k x st ps sp) (h : ∀ vs H Q E, sp' vs H Q E → sp vs H Q E) : Cal P w K mg base CX k x st ps sp' := by
  obtain ⟨f, fd, o, d⟩ := c
  exact ⟨f, fd, o, d.imp h⟩
/-- a def from which no exception goes out -/
theorem Dok.calm (F : Fun K x x st f fd) (S : FnScope N ps (defScope st)) (len : ∀ vs H Q E, sp vs H Q E → vs.length = ps.length)
    (hb : ∀ (cdv : Value) (A : Around) (outer : List Env) (s : Shared) (H : Hp) (vs : List V) (Q : VK) (E : XK), Rm k (A.deeper (envOfC x (defScope st) s.heap.objs.size f cdv)) → sp vs H Q E →
      ∃ t, PSs (cxOf CX0 P w K mg base N x (defScope st) f cdv A outer s H E).nox (defBody st) t ∧ t { nx := fun _ H' => Q .non H', rt := Q } (start N vs) H) : Dok P w K mg base CX0 (k + 1) f fd ps sp := by
  refine Dok.body F S len fun cdv A outer s H vs Q E hr h => ?_
  obtain ⟨t, a, b⟩ := hb cdv A outer s H vs Q E hr h
  exact ⟨t, a.nox, b⟩
theorem kbOf {g : List Value → List Value → List Value} {gV : List V → List V → List V} (F : Fun K x x st f fd)
    (h : ∀ (kV doc pm : Value) (an : Option Addr) (cdv ct : Value) (us ws : List Value), (g us ws).length = ps.length →
      bindArgs (PySem.W.fnOf x x (defArgs st) (defBody st) (defScope st) .none kV doc pm an cdv ct) ⟨us, ks.zip ws⟩ = pure (ps.zip (g us ws)))
    (rel : ∀ {vs : List V} {us : List Value} {zs : List V} {ws : List Value}, Vals vs us → Vals zs ws → Vals (gV vs zs) (g us ws)) : KBinds K fd ps ks g gV := by
  obtain ⟨oc, od, kV, doc, pm, an, cdv, ct, osl, rfl, lk, hcd⟩ := F.ex
  exact ⟨fun s us ws _ hl => .of_eq (h kV doc pm an cdv ct us ws hl), rel⟩
end
section
variable {X : Cx} {CX : CXT} {k : Nat} {ps : List Str} {sp : Sp} {E : XK} {x : Str} {st : Stmt} {p pos : Pos} {e : Expr} {es : List Expr} {t tk : TA} {kws : List Keyword} {ks : List Str}
  {g : List Value → List Value → List Value} {gV : List V → List V → List V}
theorem c_call (c : Cal X.prog X.w X.K X.mg X.base CX k x st ps sp) (hr : Rm k X.A) (hx : Passes CX X E) (ha : PA X (e :: es) t) (hg : Gl X x := by rfl)
    (hdb : (x == ("__debug__" : Str)) = false := by decide) (he : starEach (e :: es) X.env = (false, eval e X.env) :: starEach es X.env := by rfl) (hpl : (backTo pos (starEach es X.env)).any (·.1) = false := by rfl) :
    PE X (.Call (.Name x p) (e :: es) [] pos) (tCall sp [] E t) := by
  obtain ⟨f, fd, o, d⟩ := c
  exact d_call d hr hg o.g o.F.kp o.b .nil hx ha hdb he hpl
theorem c_call0 (c : Cal X.prog X.w X.K X.mg X.base CX k x st ps sp) (hr : Rm k X.A) (hx : Passes CX X E) (hg : Gl X x := by rfl) (hdb : (x == ("__debug__" : Str)) = false := by decide) :
    PE X (.Call (.Name x p) [] [] pos) (tCall sp [] E tNil) := by
  obtain ⟨f, fd, o, d⟩ := c
  exact d_call0 d hr hg o.g o.F.kp o.b .nil hx hdb
theorem c_callK (c : Cal X.prog X.w X.K X.mg X.base CX k x st ps sp) (hr : Rm k X.A) (hx : Passes CX X E) (ha : PA X (e :: es) t) (hkw : PK X kws tk)
    (h : ∀ (kV doc pm : Value) (an : Option Addr) (cdv ct : Value) (us ws : List Value), (g us ws).length = ps.length →
      bindArgs (PySem.W.fnOf x x (defArgs st) (defBody st) (defScope st) .none kV doc pm an cdv ct) ⟨us, ks.zip ws⟩ = pure (ps.zip (g us ws)))
    (rel : ∀ {vs : List V} {us : List Value} {zs : List V} {ws : List Value}, Vals vs us → Vals zs ws → Vals (gV vs zs) (g us ws)) (hg : Gl X x := by rfl)
    (hall : (backToKw pos (keywordEach kws X.env)).all (·.1.isSome) = true := by rfl) (hks : (backToKw pos (keywordEach kws X.env)).filterMap (·.1) = ks := by rfl)
    (hdb : (x == ("__debug__" : Str)) = false := by decide) (he : starEach (e :: es) X.env = (false, eval e X.env) :: starEach es X.env := by rfl)
    (hpl : ((backTo pos (starEach (e :: es) X.env)).any (·.1) || (backToKw pos (keywordEach kws X.env)).any (·.1.isNone)) = false := by rfl) :
    PE X (.Call (.Name x p) (e :: es) kws pos) (tCallK sp gV E t tk) := by
  obtain ⟨f, fd, o, d⟩ := c
  exact d_callK d hr hg o.g o.F.kp (kbOf o.F h rel) hx ha hkw hall hks hdb he hpl
theorem c_callN (c : Cal X.prog X.w X.K X.mg X.base CX k x st ps sp) (hr : Rm k X.A) (hx : Passes CX X E) (hkw : PK X kws tk)
    (h : ∀ (kV doc pm : Value) (an : Option Addr) (cdv ct : Value) (us ws : List Value), (g us ws).length = ps.length →
      bindArgs (PySem.W.fnOf x x (defArgs st) (defBody st) (defScope st) .none kV doc pm an cdv ct) ⟨us, ks.zip ws⟩ = pure (ps.zip (g us ws)))
    (rel : ∀ {vs : List V} {us : List Value} {zs : List V} {ws : List Value}, Vals vs us → Vals zs ws → Vals (gV vs zs) (g us ws)) (hg : Gl X x := by rfl)
    (hall : (backToKw pos (keywordEach kws X.env)).all (·.1.isSome) = true := by rfl) (hks : (backToKw pos (keywordEach kws X.env)).filterMap (·.1) = ks := by rfl)
    (hdb : (x == ("__debug__" : Str)) = false := by decide)
    (hpl : ((backTo pos (starEach [] X.env)).any (·.1) || (backToKw pos (keywordEach kws X.env)).any (·.1.isNone)) = false := by rfl) :
    PE X (.Call (.Name x p) [] kws pos) (tCallK sp gV E tNil tk) := by
  obtain ⟨f, fd, o, d⟩ := c
  exact d_callN d hr hg o.g o.F.kp (kbOf o.F h rel) hx hkw hall hks hdb hpl
/-- a whole number of the module's own -/
theorem c_const {i : Int} (h : ∃ t, X.mg x = some (.int i t)) (hg : Gl X x := by rfl) (hd : (x == ("__debug__" : Str)) = false := by decide) : PE X (.Name x p) (tC (.int i)) := by
  obtain ⟨t, h⟩ := h
  exact pe_glob (hd := hd) hg h ⟨_, rfl⟩
/-! ## a power of a great number -/
theorem op_powW : OpR X (binaryOp .Pow) (rI (fun i j => 0 ≤ j ∧ (Builtin.Int.intBits i : Int) * j ≤ 2 ^ 27) fun i j => .int (i ^ j.toNat)) :=
  opI fun _ _ _ _ _ _ _ hc q => pow_int hc.1 hc.2 q
end
theorem tyes {σ : L2.St} {H : Hp} {Q : Bool → Hp → Prop} (h : Q true H) : tYes σ H Q := h
section
variable {K : PySem.W.Frag} {a b : Addr} {xs ys : List V}
open RZ in
theorem walk_zipT {n : Nat} (hn : n = min xs.length ys.length) : Walk (ItzT K a b) n (fun H => SqT K H a xs ∧ SqT K H b ys) (YPair (fun i => xs[i]?) (fun i => ys[i]?)) := by
  subst hn
  constructor
  · intro i H hi q
    have h1 : i < xs.length := by omega
    have h2 : i < ys.length := by omega
    exact ⟨xs, ys, xs[i], ys[i], q.1, q.2, by simp [h1], by simp [h2]⟩
  · intro H q
    exact ⟨xs, ys, q.1, q.2, by omega⟩
  · intro i H v H' hi q y
    obtain ⟨T, x, z, h1, h2, h3, h4, h5⟩ := y
    exact ⟨T, x, z, h1, h2, h3, h4 xs q.1, h5 ys q.2⟩
end
end Xi
namespace Xi
open PySem PySem.Spec PyProof.Rows L2
/-! ## within a comprehension: the written part told outright -/
def rLenX (K : PySem.W.Frag) : List V → Hp → VK → Prop := fun vs H Q => ∃ p ys, vs = [.ref p] ∧ (SqL K H p ys ∨ SqT K H p ys) ∧ Q (.int ys.length) H
section
variable {X : Cx} {K : PySem.W.Frag}
theorem kc_len (e : X.K = K) : CallR X (.builtin "len") (rLenX K) := by
  subst e
  exact call_len_seq
theorem kc_isi (e : X.K = K) : CallR X (.builtin "isinstance") (rIsi K) := by
  subst e
  exact call_isi
theorem kc_isiT (e : X.K = K) : CallR X (.builtin "isinstance") (rIsiT K) := by
  subst e
  exact call_isiT
theorem kc_all (e : X.K = K) (hc : X.calm = true) : CallR X (.builtin "all") (rAll K) := by
  subst e
  exact cr_all hc
theorem k_ixL (e : X.K = K) : IxR X (rIxL K) := by
  subst e
  exact ix_list
theorem k_ixT (e : X.K = K) : IxR X (rIxT K) := by
  subst e
  exact ix_tup
theorem k_eqD (e : X.K = K) (hu : X.A.units + 64 < cLine) : OpR X (compareOp .Eq) (rEqD K) := by
  subst e
  exact op_eqD hu
theorem k_neD (e : X.K = K) (hu : X.A.units + 64 < cLine) : OpR X (compareOp .NotEq) (rNeD K) := by
  subst e
  exact op_neD hu
theorem k_inSeq (e : X.K = K) : OpR X (compareOp .In) (rIn K false) := by
  subst e
  exact op_in_seq
theorem k_niSeq (e : X.K = K) : OpR X (compareOp .NotIn) (rIn K true) := by
  subst e
  exact op_notIn_seq
theorem k_slL (e : X.K = K) : SlR X (rSlL K) := by
  subst e
  exact sl_list
end
end Xi
namespace Xi
open PySem PySem.Spec PyProof.Rows L2
/-! ## parts of a list -/
theorem cut_to {xs : List V} (k : Nat) : cutV xs none (some (k : Int)) = xs.take k := by
  unfold cutV
  rw [HT.sIx_nat, HT.sIx_none, List.drop_zero, Nat.sub_zero]
  rcases Nat.le_total k xs.length with h | h
  · rw [Nat.min_eq_left h]
  · rw [Nat.min_eq_right h, List.take_of_length_le h, List.take_of_length_le (Nat.le_refl _)]
theorem cut_from {xs : List V} (k : Nat) : cutV xs (some (k : Int)) none = xs.drop k := by
  unfold cutV
  rw [HT.sIx_nat, HT.sIx_none]
  rcases Nat.le_total k xs.length with h | h
  · rw [Nat.min_eq_left h]
    exact List.take_of_length_le (by rw [List.length_drop]; exact Nat.le_refl _)
  · rw [Nat.min_eq_right h, List.drop_of_length_le (Nat.le_refl _), List.drop_of_length_le h]
    exact List.take_nil
end Xi
namespace Xi
open PySem PySem.Spec PyProof.Rows L2
/-! ## data that may be compared -/
def shp : Nat → PyData → Prop
  | _, .none => True
  | _, .bool _ => True
  | _, .int _ => True
  | _, .str x => PyData.strOk x = true
  | 0, _ => False
  | n + 1, .list ds => ∀ d ∈ ds, shp n d
  | n + 1, .tuple ds => ∀ d ∈ ds, shp n d
  | _ + 1, .dict _ => False
theorem lay_all : ∀ {ds : List PyData}, (∀ d ∈ ds, d.canLay0 = true) → PyData.canLayAll0 ds = true
  | [], _ => rfl
  | d :: ds, h => by
    show (d.canLay0 && PyData.canLayAll0 ds) = true
    rw [h d List.mem_cons_self, lay_all fun x hx => h x (List.mem_cons_of_mem _ hx)]
    rfl
theorem deep_all {n : Nat} : ∀ {ds : List PyData}, (∀ d ∈ ds, d.depth ≤ n) → PyData.depthAll ds ≤ n
  | [], _ => Nat.zero_le _
  | d :: ds, h => by
    have h1 := h d List.mem_cons_self
    have h2 := deep_all (ds := ds) fun x hx => h x (List.mem_cons_of_mem _ hx)
    show max d.depth (PyData.depthAll ds) ≤ n
    omega
theorem shp_ok : ∀ {n : Nat} {d : PyData}, shp n d → d.canLay0 = true ∧ d.depth ≤ n + 1
  | _, .none, _ => ⟨rfl, by show 0 ≤ _; omega⟩
  | _, .bool _, _ => ⟨rfl, by show 0 ≤ _; omega⟩
  | _, .int _, _ => ⟨rfl, by show 0 ≤ _; omega⟩
  | 0, .str x, h => ⟨h, by show 0 ≤ _; omega⟩
  | _ + 1, .str x, h => ⟨h, by show 0 ≤ _; omega⟩
  | n + 1, .list ds, h => by
    have hh : ∀ d ∈ ds, shp n d := h
    refine ⟨lay_all fun d hd => (shp_ok (hh d hd)).1, ?_⟩
    have := deep_all (n := n + 1) fun d hd => (shp_ok (hh d hd)).2
    show PyData.depthAll ds + 1 ≤ _
    omega
  | n + 1, .tuple ds, h => by
    have hh : ∀ d ∈ ds, shp n d := h
    refine ⟨lay_all fun d hd => (shp_ok (hh d hd)).1, ?_⟩
    have := deep_all (n := n + 1) fun d hd => (shp_ok (hh d hd)).2
    show PyData.depthAll ds + 1 ≤ _
    omega
  | 0, .list _, h => h.elim
  | 0, .tuple _, h => h.elim
  | 0, .dict _, h => h.elim
  | _ + 1, .dict _, h => h.elim
theorem shaped_of {n : Nat} {d : PyData} (h : shp n d) (hn : n ≤ 60 := by decide) : SeqAt.shaped d = true := by
  have a := shp_ok h
  unfold SeqAt.shaped
  rw [a.1, decide_eq_true (show d.depth ≤ 64 by omega)]
  rfl
theorem shp_list {n : Nat} {ds : List PyData} (h : ∀ d ∈ ds, shp n d) : shp (n + 1) (.list ds) := h
theorem shp_tup {n : Nat} {ds : List PyData} (h : ∀ d ∈ ds, shp n d) : shp (n + 1) (.tuple ds) := h
section
variable {K : PySem.W.Frag} {x y : V} {H : Hp} {d : PyData} {n : Nat} {Q : VK}
theorem eqD (h1 : Dt H x d) (h2 : Dt H y d) (s : shp n d) (q : Q (.bl true) H) (hn : n ≤ 60 := by decide) : rEqD K x y H Q := by
  refine ⟨d, d, h1.dp, h2.dp, shaped_of s hn, shaped_of s hn, ?_⟩
  rw [SeqAt.eqv_refl d (shp_ok s).1]
  exact q
theorem neD (h1 : Dt H x d) (h2 : Dt H y d) (s : shp n d) (q : Q (.bl false) H) (hn : n ≤ 60 := by decide) : rNeD K x y H Q := by
  refine ⟨d, d, h1.dp, h2.dp, shaped_of s hn, shaped_of s hn, ?_⟩
  rw [SeqAt.eqv_refl d (shp_ok s).1]
  exact q
theorem dt_strs : ∀ (ws : List Str), DtAll H (ws.map V.str) (ws.map PyData.str)
  | [] => .nil
  | w :: ws => .cons (.str w) (dt_strs ws)
theorem dt_ints : ∀ (ns : List Int), DtAll H (ns.map V.int) (ns.map PyData.int)
  | [] => .nil
  | w :: ws => .cons (.int w) (dt_ints ws)
end
end Xi
namespace Xi
open PySem PySem.Spec PyProof.Rows L2
/-- data of at most n levels, no list too long -/
def dep : Nat → PyData → Prop
  | _, .none => True
  | _, .bool _ => True
  | _, .int _ => True
  | _, .str _ => True
  | 0, _ => False
  | n + 1, .list ds => ds.length ≤ 100000 ∧ ∀ d ∈ ds, dep n d
  | n + 1, .tuple ds => ds.length ≤ 100000 ∧ ∀ d ∈ ds, dep n d
  | _ + 1, .dict _ => False
theorem long_ok {n : Nat} (h : n ≤ 100000) : n < sizeLine := Nat.lt_of_le_of_lt h (by decide)
end Xi
namespace Xi
open PySem PySem.Spec PyProof.Rows L2
/-- what stands behind a statement, proved once -/
theorem with_nx {t : TS} {D : Ends} {σ : L2.St} {H : Hp} (W : L2.St → Hp → Prop) (h1 : ∀ σ H, W σ H → D.nx σ H) (h2 : (∀ σ H, W σ H → D.nx σ H) → t D σ H) : t D σ H := h2 h1
theorem rg_ints (n : Nat) : rgV 0 (n : Int) = ((List.range n).map (fun i : Nat => (i : Int))).map V.int := by
  unfold rgV
  rw [List.map_map, Int.sub_zero, Int.toNat_natCast]
  refine List.map_congr_left fun i _ => ?_
  show V.int (0 + (i : Int)) = V.int (i : Int)
  rw [Int.zero_add]
end Xi
namespace Xi
open PySem PySem.Spec PyProof.Rows L2
theorem ext_tup (l : Addr) (xs : Array Value) (n : Nat) (b : Addr) (ys : Array Value) (m : Nat) (dd : Option Addr) (sl : Array (Option Value)) (h0 : ¬(!xs.isEmpty && Builtin.List.listTooLong (xs.size + ys.size)) = true) (h1 : xs.size ≤ sizeLine) (h2 : xs.size + ys.size ≤ sizeLine + 1) :
    Meets (Builtin.«list.extend» ⟨[.ref l, .ref b], []⟩) (fun _ R s => s.heap.get? l = some { cls := .type "list", data := .seq xs n } ∧ s.heap.get? b = some { cls := .type "tuple", dict := dd, data := .seq ys m, slots := sl } ∧ R (.ok (.ret Value.none)) { s with heap := s.heap.update l (Obj.mapSeq fun x => x ++ ys), toks := s.toks }) :=
  .of_wp fun prog w A R s h => by
    obtain ⟨hp, g, d, tk, os⟩ := s
    obtain ⟨hl, hb, h⟩ := h
    have e1 := AutoSeq1.idx_int
    have e2 := AutoSeq1.sub_tuple_tuple
    have e3 := AutoSeq1.sub_list_list
    have e4 := AutoSeq1.sub_tuple_list
    have e5 := AutoSeq1.sub_list_tuple
    have hz' : (xs ++ ys).size ≤ sizeLine + 1 := by
      rw [Array.size_append]
      exact h2
    wp_walk using (wpAny_updateSeq hl rfl (hz := h1) (_hz' := hz')), AutoSeq1.wpAny_loadPart' hl, AutoSeq1.wpAny_loadPart' hb
    exact ⟨_, rfl, h⟩
section
variable {X : Cx}
def rExtendT (K : PySem.W.Frag) : V → List V → Hp → VK → Prop := fun x vs H Q => ∃ l b xs zs, x = .ref l ∧ vs = [.ref b] ∧ H l = some (.lst xs) ∧ SqT K H b zs ∧ xs.length + zs.length ≤ sizeLine ∧ Q .non (upd H l (.lst (xs ++ zs)))
theorem mt_extendT : MtM X "list.extend" (rExtendT X.K) := by
  intro pins s σ H x vs v us Q I rx rv h
  obtain ⟨l, b, xs, zs, rfl, rfl, hH, hB, hz, q⟩ := h
  cases rx
  obtain ⟨u, rfl, ru⟩ := rv.one
  cases ru
  obtain ⟨z, its, n, r, hl, e⟩ := I.lstM hH
  obtain ⟨ws, r2, ⟨o, h1, h2, m, h3⟩, hz2⟩ := I.tuple hB
  obtain ⟨oc, od, dt, sl⟩ := o
  simp only at h2 h3
  subst h2 h3
  have hl2 := r2.length
  have hsz : its.toArray.size + ws.toArray.size ≤ sizeLine := by
    rw [List.size_toArray, List.size_toArray]
    omega
  have short : ¬ (!its.toArray.isEmpty && Builtin.List.listTooLong (its.toArray.size + ws.toArray.size)) = true := by
    rw [notLongL hsz, Bool.and_false]
    exact Bool.false_ne_true
  refine call_meets F.slot_list_extend ⟨_, e, rfl⟩ F.entry_list_extend (F.args_list_extend_2 _ _) (ext_tup l its.toArray n b ws.toArray m od sl short (by rw [List.size_toArray]; omega) (by omega)) ⟨e, h1, ?_⟩
  refine ⟨.non, _, I.lset (its' := its ++ ws) hH e (by simp) (r.append r2) ?_, rfl, q⟩
  rw [List.length_append]
  omega
end
end Xi

namespace Xi
open PySem PySem.Spec PyProof.Rows L2
/-! ## a datum written out -/
def rRepr (K : PySem.W.Frag) : List V → Hp → VK → Prop := fun xs H Q => ∃ (a : Addr) (d : PyData), xs = [.ref a] ∧ Dp K H (.ref a) d ∧ d.showable = true ∧ SeqAt.shaped d = true ∧ d.shown.length ≤ sizeLine ∧ Q (.str d.shown) H
section
variable {X : Cx} {K : PySem.W.Frag} {k : Nat}
theorem kc_repr (e : X.K = K) (hr : Rm k X.A) : CallR X (.builtin "repr") (rRepr K) := by
  subst e
  intro pins s σ H xs us Q I r h
  obtain ⟨a, d, rfl, hd, h1, h2, h3, q⟩ := h
  obtain ⟨u, rfl, ru⟩ : ∃ u, us = [u] ∧ RelV (.ref a) u := by
    cases r with
    | cons x y =>
      cases y
      exact ⟨_, rfl, x⟩
  cases (show u = Value.ref a from ru)
  obtain ⟨as, rd⟩ := Dp.reads I d _ _ hd rfl
  have nd := PyData.hasDict_of_canLay d (SeqAt.canLay_of_shaped h2)
  have dp := SeqAt.depth_of_shaped h2
  have un := hr.r.un
  refine repr_of_reads' rd h1 (fun z => by rw [nd] at z; cases z) hr.g (by omega) (fun b o e => e) (fun h' u tk keep => ?_) h3
  exact ⟨.str d.shown, H, I.kept (t' := tk) keep, ⟨u, rfl⟩, q⟩
/-! ## a set of whole numbers -/
def rSetI (K : PySem.W.Frag) : List V → Hp → VK → Prop := fun xs H Q => ∃ (l : Addr) (ns : List Int), xs = [.ref l] ∧ SqL K H l (ns.map V.int) ∧ ns.length ≤ 4000 ∧ ∀ p S n, H p = none → (∀ z, S z = decide (z ∈ ns)) → Q (.ref p) (upd H p (.set S n))
theorem kc_setI (e : X.K = K) (hc : X.calm = true) : CallR X (.type "set") (rSetI K) := by
  subst e
  intro pins s σ H xs us Q I r h
  obtain ⟨l, ns, rfl, hl, hz, q⟩ := h
  obtain ⟨u, rfl, ru⟩ : ∃ u, us = [u] ∧ RelV (.ref l) u := by
    cases r with
    | cons x y =>
      cases y
      exact ⟨_, rfl, x⟩
  cases (show u = Value.ref l from ru)
  obtain ⟨its, r, pl, _⟩ := I.list hl
  have hlen : its.toArray.size = ns.length := by rw [List.size_toArray, ← r.length, List.length_map]
  refine call_set_list (I.ok.hd hc) pl.isList (by simpa using RZ.intsAre_vals r) (by rw [hlen]; unfold scanBound; omega) fun h' tk hS hk => ?_
  have hf : H s.heap.objs.size = none := I.hok.fresh (Nat.le_refl _)
  refine ⟨.ref s.heap.objs.size, _, I.laid (t' := tk) (fun b o e => hk b o (Heap.lt_size e) e) (Nat.le_refl _) (show ObjOk X.prog X.w (upd H s.heap.objs.size (.set _ _)) h' s.heap.objs.size (.set _ _) from hS), rfl, q _ _ _ hf fun z => ?_⟩
  rw [firstMet_any, hlen]
  have e1 : (List.range ns.length).map (fun i => ns.getD i 0) = ns := by
    refine List.ext_getElem (by simp) fun i h1 h2 => ?_
    simp [List.getD_eq_getElem?_getD, List.getElem?_eq_getElem h2]
  rw [e1]
  by_cases hm : z ∈ ns
  · rw [decide_eq_true hm]
    exact List.any_eq_true.mpr ⟨z, hm, by simp⟩
  · rw [decide_eq_false hm]
    exact List.any_eq_false.mpr fun y hy => by
      intro e
      have : y = z := by simpa using e
      exact hm (this ▸ hy)
theorem kc_min (e : X.K = K) (hc : X.calm = true) : CallR X (.builtin "min") (rMin K) := by
  subst e
  exact cr_min hc
theorem kc_max (e : X.K = K) (hc : X.calm = true) : CallR X (.builtin "max") (rMax K) := by
  subst e
  exact cr_max hc
def rInI : R2 := fun x y H Q => ∃ (z : Int) (a : Addr) (S : Int → Bool) (n : Nat), x = .int z ∧ y = .ref a ∧ H a = some (.set S n) ∧ Q (.bl (S z)) H
theorem op_inI : OpR X (compareOp .In) rInI := by
  intro pins s σ H x y v u Q I rx ry h
  obtain ⟨z, a, S, n, rfl, rfl, ha, q⟩ := h
  obtain ⟨t, rfl⟩ := rx
  cases (show u = Value.ref a from ry)
  have hS : s.heap.SetOf (intKind X.prog X.w) a S n := I.hok a _ ha
  exact wpAny_inSet_of (knd := intKind X.prog X.w) (k := z) (by simp [intKind, Value.isInt]) rfl hS ⟨.bl (S z), H, I.tok _, rfl, q⟩
end
end Xi
namespace Xi
open PySem PySem.Spec PyProof.Rows L2
/-! ## how long a written datum is at most -/
mutual
def wt : PyData → Nat
  | .none => 4
  | .bool _ => 5
  | .int _ => 40
  | .str _ => 0
  | .list ds => wtAll ds + 2
  | .tuple ds => wtAll ds + 4
  | .dict _ => 0
def wtAll : List PyData → Nat
  | [] => 0
  | d :: ds => wt d + 2 + wtAll ds
end
/-- data of truths and whole numbers of at most 31 figures -/
def prt : Nat → PyData → Prop
  | _, .none => True
  | _, .bool _ => True
  | _, .int i => i.natAbs < 10 ^ 31
  | _, .str _ => False
  | 0, _ => False
  | n + 1, .list ds => ∀ d ∈ ds, prt n d
  | n + 1, .tuple ds => ∀ d ∈ ds, prt n d
  | _ + 1, .dict _ => False
theorem prt_shp : ∀ {n : Nat} {d : PyData}, prt n d → shp n d
  | _, .none, _ => (by unfold shp; trivial)
  | _, .bool _, _ => (by unfold shp; trivial)
  | _, .int _, _ => (by unfold shp; trivial)
  | 0, .str _, h => h.elim
  | _ + 1, .str _, h => h.elim
  | n + 1, .list ds, h => fun d hd => prt_shp ((show ∀ d ∈ ds, prt n d from h) d hd)
  | n + 1, .tuple ds, h => fun d hd => prt_shp ((show ∀ d ∈ ds, prt n d from h) d hd)
  | 0, .list _, h => h.elim
  | 0, .tuple _, h => h.elim
  | 0, .dict _, h => h.elim
  | _ + 1, .dict _, h => h.elim
theorem strLen (x y : Str) : (x ++ y).length = x.length + y.length := Array.size_append ..
theorem textFrom_le : ∀ (ts : List Str) (k : Nat) (acc : Str), (textFrom k acc ts).length ≤ acc.length + (ts.map fun t => t.length + 2).sum
  | [], _, acc => by
    show acc.length ≤ acc.length + 0
    omega
  | t :: r, k, acc => by
    have ih := textFrom_le r (k + 1) (acc ++ ((if k > 0 then ", " else "" : String) : Str) ++ t)
    have e : ((if k > 0 then ", " else "" : String) : Str).length ≤ 2 := by
      split
      · exact Nat.le_of_eq (by decide +kernel)
      · exact Nat.le_trans (Nat.le_of_eq (by decide +kernel : (("" : String) : Str).length = 0)) (by decide)
    rw [strLen, strLen] at ih
    show (textFrom (k + 1) (acc ++ ((if k > 0 then ", " else "" : String) : Str) ++ t) r).length ≤ acc.length + ((t.length + 2) + (r.map fun t => t.length + 2).sum)
    omega
theorem join_le : ∀ ts : List Str, (Str.join ", " ts).length ≤ (ts.map fun t => t.length + 2).sum
  | [] => Nat.le_of_eq (by decide +kernel)
  | [x] => by
    show x.length ≤ (x.length + 2) + 0
    omega
  | x :: y :: r => by
    have ih := join_le (y :: r)
    have e2 : ((", " : String) : Str).length = 2 := by decide +kernel
    show (x ++ ((", " : String) : Str) ++ Str.join ", " (y :: r)).length ≤ (x.length + 2) + ((y :: r).map fun t => t.length + 2).sum
    rw [strLen, strLen]
    omega
mutual
theorem shown_le : ∀ {n : Nat} {d : PyData}, prt n d → d.showable = true ∧ d.shown.length ≤ wt d
  | _, .none, _ => ⟨rfl, Nat.le_of_eq (by decide +kernel)⟩
  | _, .bool b, _ => ⟨rfl, by cases b <;> decide +kernel⟩
  | n, .int i, h => by
    have hi : i.natAbs < 10 ^ 31 := by cases n <;> exact h
    have h2 : (10 : Nat) ^ 31 < 2 ^ 110 := by decide
    have l := int_text_length_le10 (a := i) (k := 31) (by decide) hi
    refine ⟨?_, ?_⟩
    · show decide (i.natAbs.log2 < 1920) = true
      exact decide_eq_true (Nat.lt_trans (PySem.Flt.log2_lt_of (k := 110) (by decide) (Nat.lt_trans hi h2)) (by decide))
    · have e : ((toString i : String) : Str).length ≤ 32 := by
        show (Str.ofString (toString i)).length ≤ 32
        rw [PySem.ofString_length]
        exact l
      show ((toString i : String) : Str).length ≤ 40
      omega
  | 0, .str _, h => h.elim
  | _ + 1, .str _, h => h.elim
  | n + 1, .list ds, h => by
    obtain ⟨a, b⟩ := shownAll_le (n := n) (ds := ds) h
    refine ⟨a, ?_⟩
    have t := textFrom_le (PyData.shownAll ds) 0 ("[" : Str)
    have e1 : ("[" : Str).length = 1 := by decide +kernel
    have e2 : ("]" : Str).length = 1 := by decide +kernel
    show (textFrom 0 ("[" : Str) (PyData.shownAll ds) ++ ("]" : Str)).length ≤ wtAll ds + 2
    rw [strLen]
    omega
  | n + 1, .tuple ds, h => by
    obtain ⟨a, b⟩ := shownAll_le (n := n) (ds := ds) h
    refine ⟨a, ?_⟩
    have t := join_le (PyData.shownAll ds)
    have e1 : ("(" : Str).length = 1 := by decide +kernel
    have e2 : ((if (PyData.shownAll ds).length == 1 then ",)" else ")" : String) : Str).length ≤ 2 := by
      split
      · exact Nat.le_of_eq (by decide +kernel)
      · exact Nat.le_trans (Nat.le_of_eq (by decide +kernel : ((")" : String) : Str).length = 1)) (by decide)
    show (("(" : Str) ++ Str.join ", " (PyData.shownAll ds) ++ ((if (PyData.shownAll ds).length == 1 then ",)" else ")" : String) : Str)).length ≤ wtAll ds + 4
    rw [strLen, strLen]
    omega
  | 0, .list _, h => h.elim
  | 0, .tuple _, h => h.elim
  | 0, .dict _, h => h.elim
  | _ + 1, .dict _, h => h.elim
theorem shownAll_le : ∀ {n : Nat} {ds : List PyData}, (∀ d ∈ ds, prt n d) → PyData.showableAll ds = true ∧ ((PyData.shownAll ds).map fun t => t.length + 2).sum ≤ wtAll ds
  | _, [], _ => ⟨rfl, Nat.le_refl _⟩
  | n, d :: ds, h => by
    obtain ⟨a, b⟩ := shown_le (h d List.mem_cons_self)
    obtain ⟨a2, b2⟩ := shownAll_le (ds := ds) fun x hx => h x (List.mem_cons_of_mem _ hx)
    refine ⟨?_, ?_⟩
    · show (d.showable && PyData.showableAll ds) = true
      rw [a, a2]
      rfl
    · show (d.shown.length + 2) + ((PyData.shownAll ds).map fun t => t.length + 2).sum ≤ wt d + 2 + wtAll ds
      omega
end
theorem wtAll_le {m : Nat} : ∀ {ds : List PyData}, (∀ d ∈ ds, wt d ≤ m) → wtAll ds ≤ ds.length * (m + 2)
  | [], _ => Nat.zero_le _
  | d :: ds, h => by
    have a := h d List.mem_cons_self
    have b := wtAll_le (ds := ds) fun x hx => h x (List.mem_cons_of_mem _ hx)
    show wt d + 2 + wtAll ds ≤ (ds.length + 1) * (m + 2)
    rw [Nat.add_mul, Nat.one_mul]
    omega
section
variable {K : PySem.W.Frag} {a : Addr} {H : Hp} {d : PyData} {n : Nat} {Q : VK}
theorem reprD (h : Dt H (.ref a) d) (s : prt n d) (l : wt d ≤ 10000000) (q : Q (.str d.shown) H) (hn : n ≤ 60 := by decide) : rRepr K [.ref a] H Q := by
  obtain ⟨x, y⟩ := shown_le s
  refine ⟨a, d, rfl, h.dp, x, shaped_of (prt_shp s) hn, ?_, q⟩
  have e : sizeLine = 16777216 := by rw [sizeLine_eq]
  rw [e]
  omega
theorem prt_list {ds : List PyData} (h : ∀ d ∈ ds, prt n d) : prt (n + 1) (.list ds) := h
theorem prt_tup {ds : List PyData} (h : ∀ d ∈ ds, prt n d) : prt (n + 1) (.tuple ds) := h
end
end Xi

namespace Xi
open PySem PySem.Spec PySem.Calls PyProof.Rows L2
/-! ## except (A, B, ..) as e -/
section
variable {M : Model} {A : Around} {E : Value → Shared → Prop} {s : Shared}
theorem forIn_skip {body : Value → PUnit → Sem (ForInStep PUnit)} : ∀ {l : List Value} {Q : PUnit → Shared → Prop}, (∀ c ∈ l, ∀ {Q : ForInStep PUnit → Shared → Prop}, Q (.yield ⟨⟩) s → wpAny M A (body c ⟨⟩) Q E s) → Q ⟨⟩ s → wpAny M A (forIn l ⟨⟩ body) Q E s
  | [], Q, _, q => by
    rw [List.forIn_nil]
    exact wpAny_pure q
  | c :: l, Q, h, q => by
    rw [List.forIn_cons]
    exact wpAny_bind (h c List.mem_cons_self (forIn_skip (fun d hd => h d (List.mem_cons_of_mem _ hd)) q))
theorem forIn_any {β : Type} {b0 b1 : β} {f : Value → Bool} {body : Value → β → Sem (ForInStep β)} : ∀ {l : List Value} {Q : β → Shared → Prop},
    (∀ c ∈ l, ∀ {Q : ForInStep β → Shared → Prop}, Q (if f c then .done b1 else .yield b0) s → wpAny M A (body c b0) Q E s) → Q (if l.any f then b1 else b0) s → wpAny M A (forIn l b0 body) Q E s
  | [], Q, _, q => by
    rw [List.forIn_nil]
    exact wpAny_pure q
  | c :: l, Q, h, q => by
    rw [List.forIn_cons]
    refine wpAny_bind (h c List.mem_cons_self ?_)
    rw [List.any_cons] at q
    cases e : f c with
    | true =>
      rw [e] at q
      exact wpAny_pure q
    | false =>
      rw [e] at q
      exact forIn_any (fun d hd => h d (List.mem_cons_of_mem _ hd)) q
end
theorem exmAny_each {K : PySem.W.Frag} {cls : Value} : ∀ {cs : List Value} {b : Bool}, PySem.W.exmAny K cls cs = some b → (∀ c ∈ cs, PySem.W.exmOne K cls c = some ((PySem.W.exmOne K cls c).getD false)) ∧ b = cs.any fun c => (PySem.W.exmOne K cls c).getD false
  | [], b, h => ⟨fun c hc => (by cases hc), (Option.some.inj h).symm⟩
  | c :: r, b, h => by
    obtain ⟨b1, d1, h1, h2, rfl⟩ := PySem.W.exmAny_cons h
    obtain ⟨i1, i2⟩ := exmAny_each h2
    refine ⟨fun d hd => ?_, ?_⟩
    · rcases List.mem_cons.mp hd with rfl | hd
      · rw [h1]
        rfl
      · exact i1 d hd
    · rw [List.any_cons, h1, ← i2]
      rfl
open PySem.W in
theorem exm_all {M : Model} {K : PySem.W.Frag} {cs : List Value} {cls : Value} {tp e : Addr} {b : Bool} {h : Heap} (X : K.In h) (LT : Looks M h (typeOf (.ref e)) cls) (hp : h.get? tp = some { cls := .type "tuple", data := .seq cs.toArray }) (hx : exmAny K cls cs = some b) :
    Looks M h (excMatches (.ref e) (.ref tp)) b := by
  intro A Q E s k₀ q
  obtain ⟨hh, g, d, tk, os⟩ := s
  have k : ∀ b o, h.get? b = some o → hh.get? b = some o := k₀
  have LT0 : Looks M h (isInstance (.ref tp) (.type "tuple")) true := ((Looks.ld hp).andThen .now).andThen (Looks.of_pure isSubtype_tuple_tuple)
  obtain ⟨each, eb⟩ := exmAny_each hx
  have LT := LT.keeps k
  have LT0 := LT0.keeps k
  have hp' := k _ _ hp
  unfold excMatches
  refine wpAny_bind (LT0.at ?_)
  dsimp only
  rw [if_pos rfl]
  first
    | refine wpAny_bind (wpAny_seqItems hp' rfl ?_)
    | refine wpAny_bind (wpAny_bind (wpAny_seqItems hp' rfl (wpAny_pure ?_)))
  dsimp only [Option.getD_some, Option.getD]
  refine wpAny_bind (wpAny_pure ?_)
  refine wpAny_bind (forIn_skip (fun c hc Q q => ?_) ?_)
  · obtain ⟨e1, S1⟩ := exm_cls (M := M) X (each c hc)
    have e1 := e1.keeps k
    refine wpAny_bind (e1.at ?_)
    simp only [Bool.not_true, Bool.false_eq_true, if_false]
    exact wpAny_pure q
  refine wpAny_bind (LT.at ?_)
  refine wpAny_bind (forIn_any (b1 := (some true, ())) (f := fun c => (exmOne K cls c).getD false) (fun c hc Q q => ?_) ?_)
  · obtain ⟨e1, S1⟩ := exm_cls (M := M) X (each c hc)
    have S1 := S1.keeps k
    refine wpAny_bind (S1.at ?_)
    cases e : (exmOne K cls c).getD false with
    | true =>
      rw [if_pos rfl]
      rw [e, if_pos rfl] at q
      exact wpAny_pure q
    | false =>
      rw [if_neg Bool.false_ne_true]
      rw [e, if_neg Bool.false_ne_true] at q
      exact wpAny_pure q
  rw [← eb]
  cases b with
  | true =>
    rw [if_pos rfl]
    exact wpAny_pure q
  | false =>
    rw [if_neg Bool.false_ne_true]
    exact wpAny_pure q
/-- the names in the brackets of an except clause -/
inductive NamesL (X : Cx) : List Expr → List Value → Prop
  | nil : NamesL X [] []
  | cons {x : Str} {c : Value} {p : Pos} {es : List Expr} {cs : List Value} (hc : Names X x c) (r : NamesL X es cs) : NamesL X (.Name x p :: es) (c :: cs)
theorem NamesL.mark {X : Cx} {a : Addr} {pn : List (Addr × Obj)} {es : List Expr} {cs : List Value} (h : NamesL X es cs) : NamesL (X.suite a pn) es cs := by
  induction h with
  | nil => exact .nil
  | cons y r ih => exact .cons y ih
/-- an exception of the class cls that was caught, at a -/
def CaO (cls : Value) (a : Addr) : HO := .ext fun h => ∃ (oe : Obj) (vs : Array Value), h.get? a = some oe ∧ oe.cls = cls ∧ oe.dict = none ∧ oe.data = .fields vs
theorem caO_ok {P : Program} {w : World} {H : Hp} {h : Heap} {a : Addr} {cls : Value} {oe : Obj} {vs : Array Value} (e : h.get? a = some oe) (z : Zc cls none oe) (d : oe.data = .fields vs) : ObjOk P w H h a (CaO cls a) :=
  ⟨⟨oe, vs, e, z.1, z.2, d⟩, ⟨oe, e⟩, fun _ _ ⟨u, v, q, r⟩ k => ⟨u, v, k u q, r⟩⟩
section
variable {X : Cx} {pins : List (Addr × Obj)} {σ : L2.St} {H : Hp} {s : Shared} {a : Addr} {o : HO}
theorem names_run {pos : Pos} {E : Value → Shared → Prop} (I : Inv X pins σ H s) : ∀ {es : List Expr} {cs : List Value} {Q : List Value → Shared → Prop}, NamesL X es cs → Q cs s → wpAny (model X.prog X.w) X.A (spliced (backTo pos (starEach es X.env))) Q E s
  | _, _, _, .nil, q => wpAny_items_nil q
  | _, _, _, .cons (c := c) ⟨g, d, y⟩ r, q => by
    refine wpAny_items_cons ?_
    rcases y with y | ⟨y, v, nn⟩
    · exact ld_glob I g y (names_run I r q) d
    · exact ld_blt I g y v (names_run I r q) nn d
/-- an object that was made since the entry may be looked after -/
theorem track (I : Inv X pins σ H s) (n : H a = none) (old : X.s_0.heap.get? a = none) (nl : a ≠ X.env.locals) (nc : ∀ x c, X.env.cells.lookup x = some c → c ≠ a) (np : ∀ p ∈ X.pn ++ pins, p.1 ≠ a)
    (new : ObjOk X.prog X.w (upd H a o) s.heap a o) : Inv X pins σ (upd H a o) s where
  ok := I.ok
  os := I.os
  bare := I.bare
  base := by
    refine ⟨I.base.keep, I.base.slot, fun b u e z w => ?_, I.base.there, fun b xs e => ?_, fun b u xs e => ?_, fun b ps e => ?_⟩
    · rw [upd_ne (fun q => by rw [q, old] at e; cases e)]
      exact I.base.free b u e z w
    · rw [upd_ne (ne_of_none (I.base.tups b xs e) n)]
      exact I.base.tups b xs e
    · rw [upd_ne (ne_of_none (I.base.frzs b u xs e) n)]
      exact I.base.frzs b u xs e
    · obtain ⟨m, z⟩ := I.base.tbls b ps e
      exact ⟨m, by rw [upd_ne (ne_of_none z n)]; exact z⟩
  loc := I.loc
  cell := I.cell
  free := by
    rw [upd_ne nl.symm]
    exact I.free
  freeC := fun x c e => by
    rw [upd_ne (nc x c e)]
    exact I.freeC x c e
  pin := fun p hp => by
    obtain ⟨x1, x2, x3⟩ := I.pin p hp
    exact ⟨x1, by rw [upd_ne (np p hp)]; exact x2, x3⟩
  hok := HOk.laidN I.hok (fun _ _ z => z) n new
  len := I.len
end
theorem flies {B : Heap} {l : List Env} {e : Addr} {Z : Obj → Prop} {h h' : Heap} (f : HandSPX.FlyingZ B l e Z h) (k : ∀ b o, h.get? b = some o → h'.get? b = some o) : HandSPX.FlyingZ B l e Z h' := by
  obtain ⟨f1, f2, f3, oe, ws, T, oT, ts, x1, x2, x3, x4, x5, x6, x7, x8⟩ := f
  exact ⟨fun b o q => k b o (f1 b o q), f2, f3.of_keeps fun b o q _ => ⟨o, k b o q, rfl⟩, oe, ws, T, oT, ts, k _ _ x1, x2, x3, x4, x5, x6, k _ _ x7, x8⟩
/-- what 'except (A, B, ..) as n' wishes of an exception; behind its suite the exception is looked after -/
def wIn (K : PySem.W.Frag) (cs : List Value) (i : Nat) (ts : Addr → Value → Option Addr → TS) (Wout : WX) (D : Ends) : WX := fun cls d σ H =>
  ∃ b, PySem.W.exmAny K cls cs = some b ∧
    (b = true → d = none ∧ ∀ a, H a = none → ts a cls d { nx := fun σ' H' => D.nx (σ'.set i none) (upd H' a (CaO cls a)), rt := fun _ _ => False, bk := fun _ _ => False, ct := fun _ _ => False } (σ.set i (some (.ref a))) H) ∧
    (b = false → Wout cls d σ H)
section
variable {X : Cx} {n : Str} {i kk : Nat} {es : List Expr} {cs : List Value} {body suite : List Stmt} {b₀ : Stmt} {tpos pos pos' : Pos} {tb : WX → TS} {ts : Addr → Value → Option Addr → TS} {Wout : WX}
theorem ps_try_in (e1 : X.stack = X.env :: X.outer) (e2 : X.env.frame = some X.env.locals) (e3 : X.ex = []) (nd : X.N.Nodup) (ni : X.N[i]? = some n) (nk : X.env.kindOf n = some .local) (hc : NamesL X es cs) (lc : cs.length ≤ sizeLine) (tk : Takes X Wout)
    (B1 : ∀ (W : WX) (pn : List (Addr × Obj)) (xe : Value → Shared → Prop), Takes (X.tr pn xe) W → PSs (X.tr pn xe) body (tb W))
    (B2 : ∀ (a : Addr) (oe : Obj) (cls : Value) (d : Option Addr) (pn : List (Addr × Obj)), Zc cls d oe → (∃ vs, oe.data = .fields vs) → PSs (X.suite a ((a, oe) :: pn)) (b₀ :: suite) (ts a cls d)) :
    PS X (.Try body [.ExceptHandler (some (.Tuple es kk tpos)) (some n) (b₀ :: suite) pos'] [] [] pos) (fun D σ H => tb (wIn X.K cs i ts Wout D) D σ H) := by
  constructor
  intro pins s σ H D I0 want
  have ok := I0.ok
  have fr : X.A.frames = some (X.env :: X.outer) := by
    rw [ok.frames, e1]
  refine wpAny_Try_except (wpAny_mono ((B1 (wIn X.K cs i ts Wout D) (X.pn ++ pins) _ (fun u s' air => ?_)).run [] s σ H D (I0.toTry _) want) (fun f s1 done => ?_) (fun _ _ z => z))
  · obtain ⟨a, B, sI, pins', σ', H', cls, d, rfl, J', nb, up, sky, na, os, ag, b, x1, yes, no⟩ := air
    have J : Inv X pins σ' H' sI := J'.ofTry ok
    rw [show (X.tr (X.pn ++ pins) _).stack = X.env :: X.outer from e1] at sky
    refine Sky.land Zc.steady fr e2 sky fun h3 g3 u3 => ?_
    have J3 : Inv X pins σ' H' { s' with heap := h3 } := J.landed nb g3.1 (up.trans u3) os ag
    obtain ⟨oe, vs, T, oT, us, q1, q2, q3, q4, q5, q6, q7, q8, q9⟩ := id g3.2.2.2
    have apart : a ∉ frs (X.env :: X.outer) := fun hm => by
      obtain ⟨_, u, eu, hu⟩ := g3.2.2.1.mem hm
      rw [q1] at eu
      cases eu
      exact hu _ q3
    have aL : a ≠ X.env.locals := fun z => apart (List.mem_filterMap.mpr ⟨X.env, List.mem_cons_self, by rw [e2, z]⟩)
    have aF : a ∉ X.fs := fun hm => by
      obtain ⟨v, hv, q⟩ := List.mem_filterMap.mp hm
      exact apart (List.mem_filterMap.mpr ⟨v, List.mem_cons_of_mem _ hv, q⟩)
    -- what is in the brackets
    refine wpAny_handleBy_cons (codeAny_handlers_test ?_) (fun q => by cases q)
    refine wpAny_Tuple (names_run (X := X.suite a ((a, oe) :: (X.pn ++ pins))) (J3.suite q1 q3 na aL aF) (es := es) (cs := cs) ?_ ⟨lc, ?_⟩)
    · exact hc.mark
    have grow : ∀ b o, h3.get? b = some o → (h3.push { cls := .type "tuple", data := .seq cs.toArray }).get? b = some o := fun _ _ z => Heap.get?_push_of_some _ z
    have tup : (h3.push { cls := .type "tuple", data := .seq cs.toArray }).get? h3.objs.size = some { cls := .type "tuple", data := .seq cs.toArray } := Heap.get?_push_size h3 rfl
    have LT : PySem.W.Looks (model X.prog X.w) (h3.push { cls := .type "tuple", data := .seq cs.toArray }) (typeOf (.ref a)) cls := fun A Q E s k q => wpAny_typeOf_ref (k _ _ (grow _ _ q1)) (by rw [q2.1]; exact q)
    refine (exm_all (M := model X.prog X.w) (J3.kIn.keeps grow) LT tup x1).here ?_
    have f4 := flies g3 grow
    have u4 : sI.heap.UpToSlots (h3.push { cls := .type "tuple", data := .seq cs.toArray }) := (up.trans u3).trans (Heap.UpToSlots.of_keeps grow)
    generalize h3.push { cls := .type "tuple", data := .seq cs.toArray } = h4 at f4 u4
    cases b with
    | true =>
      obtain ⟨hd, yes⟩ := yes rfl
      subst hd
      have nb2 : ∀ b o, sI.heap.get? b = some o → b ∉ frs (X.env :: X.outer) → B.get? b = some o := by
        rw [← e1]
        exact nb
      have aB : B.get? a = none := g3.2.1
      have old : X.s_0.heap.get? a = none := by
        cases z : X.s_0.heap.get? a with
        | none => rfl
        | some o =>
          obtain ⟨u, hu⟩ := J.base.there a o z (by rw [e3]; exact fun q => nomatch q)
          have := nb2 a u hu apart
          rw [aB] at this
          cases this
      have np : ∀ p ∈ X.pn ++ pins, p.1 ≠ a := fun p hp z => by
        obtain ⟨y1, _, y3, y4, _⟩ := J.pin p hp
        have := nb2 p.1 _ y1 (fun hm => by
          obtain ⟨v, hv, q⟩ := List.mem_filterMap.mp hm
          rcases List.mem_cons.mp hv with rfl | hv
          · rw [e2] at q
            exact y3 (Option.some.inj q).symm
          · exact y4 (List.mem_filterMap.mpr ⟨v, hv, q⟩))
        rw [z, aB] at this
        cases this
      refine codeAny_handlers_suite_as (HandSPX.lands_againZ f4 fun h5 f5 u5 => ?_)
      have J5 : Inv X pins σ' H' { s' with heap := h5 } := J.landed nb f5.1 (u4.trans u5) os ag
      obtain ⟨oe5, vs5, _, _, _, p1, p2, p3, _⟩ := id f5.2.2.2
      refine store_ok (X := X.suite a ((a, oe5) :: (X.pn ++ pins))) (v := .ref a) (J5.suite p1 p3 na aL aF) nd ni (.inl nk) rfl (fun s6 J6 => ?_) (.inr nk)
      refine wpAny_mono ((B2 a oe5 cls none (X.pn ++ pins) p2 ⟨_, p3⟩).run [] s6 _ H' _ J6 (yes a na)) (fun f s7 fin => ?_) (fun _ _ z => z.elim)
      cases f with
      | next =>
        obtain ⟨σ7, H7, J7, k7⟩ := fin
        refine gone_ok (X := X.suite a ((a, oe5) :: (X.pn ++ pins))) J7 nd ni nk fun s8 J8 => ?_
        obtain ⟨y1, y2, _⟩ := J8.pin (a, oe5) (List.mem_append_left _ List.mem_cons_self)
        refine ⟨_, _, track (J8.unsuite ok) y2 old aL (fun x c hx z => ?_) np (caO_ok y1 p2 p3), k7⟩
        obtain ⟨v, o, ho, hv⟩ := J8.cell x c hx
        rw [z, y1] at ho
        cases ho
        rw [p3] at hv
        cases hv
      | brk => exact fin.elim fun _ h => h.elim fun _ h => h.2.elim
      | cont => exact fin.elim fun _ h => h.elim fun _ h => h.2.elim
      | ret u => exact fin.elim fun _ h => h.elim fun _ h => h.elim fun _ h => h.2.2.elim
    | false =>
      show wpAny _ X.A (handleBy (.ref a) X.env []) _ _ _
      refine wpAny_handleBy_nil ?_
      obtain ⟨_, _, T4, _, _, w1, _, w3, w4, _⟩ := id f4.2.2.2
      unfold PySem.passOn
      refine wpAny_bind (wpAny_field w1 w3 w4 ?_)
      rw [if_neg (show ¬ ((Value.ref T4 == Value.none) = true) by simp)]
      have on : wpAny (model X.prog X.w) X.A (setFlight (.ref a) X.env.frame) (fun _ z => wpAny (model X.prog X.w) X.A (throw (.ref a) : Sem Flow) (SP X pins D) X.xe z) X.xe { s' with heap := h4 } := by
        rw [e2]
        refine HandSPX.setFlight_upZ f4 fun h6 held u6 => wpAny_throw (tk _ _ ⟨a, B, sI, pins, σ', H', cls, d, rfl, J, nb, u4.trans u6, ?_, na, os, ag, no rfl⟩)
        rw [e1]
        exact .inr (.inr held)
      first
        | exact wpAny_bind (wpAny_pure (wpAny_bind on))
        | exact wpAny_bind on
  · cases f with
    | next =>
      obtain ⟨σ1, H1, J1, k1⟩ := done
      exact wpAny_execs_nil ⟨σ1, H1, J1.ofTry ok, k1⟩
    | brk =>
      obtain ⟨σ1, H1, J1, k1⟩ := done
      exact ⟨σ1, H1, J1.ofTry ok, k1⟩
    | cont =>
      obtain ⟨σ1, H1, J1, k1⟩ := done
      exact ⟨σ1, H1, J1.ofTry ok, k1⟩
    | ret u =>
      obtain ⟨v1, σ1, H1, J1, r1, k1⟩ := done
      exact ⟨v1, σ1, H1, J1.ofTry ok, r1, k1⟩
end
/-! ## isinstance of a caught exception -/
def rIsC (K : PySem.W.Frag) : List V → Hp → VK → Prop := fun xs H Q => ∃ (a D : Addr) (c : V) (cv : Value) (b : Bool), xs = [.ref a, c] ∧ H a = some (CaO (.ref D) a) ∧ ExcC K D ∧ ClsV c cv ∧ PySem.W.kitOne K (.ref D) cv = some b ∧ Q (.bl b) H
def rIsCT (K : PySem.W.Frag) : List V → Hp → VK → Prop := fun xs H Q => ∃ (a D tp : Addr) (cs : List V) (us : List Value) (b : Bool), xs = [.ref a, .ref tp] ∧ H a = some (CaO (.ref D) a) ∧ ExcC K D ∧ H tp = some (.tup cs) ∧ Paired ClsV cs us ∧ PySem.W.kitAny K (.ref D) us = some b ∧ Q (.bl b) H
section
variable {X : Cx} {K : PySem.W.Frag}
theorem caO_at {pins : List (Addr × Obj)} {σ : L2.St} {H : Hp} {s : Shared} {a D : Addr} (I : Inv X pins σ H s) (e : H a = some (CaO (.ref D) a)) : ∃ oe, PySem.W.InstAt s.heap a oe D none := by
  obtain ⟨⟨oe, vs, h1, h2, h3, h4⟩, _⟩ := (show ObjOk X.prog X.w H s.heap a (CaO (.ref D) a) from I.hok a _ e)
  refine ⟨oe, ?_⟩
  obtain ⟨oc, od, oda, osl⟩ := oe
  dsimp only at h2 h3 h4
  subst h2 h3 h4
  exact ⟨h1, rfl, rfl, trivial⟩
theorem kc_isC (e : X.K = K) : CallR X (.builtin "isinstance") (rIsC K) := by
  subst e
  intro pins s σ H xs us Q I r h
  obtain ⟨a, D, c, cv, b, rfl, ha, C, k, e, q⟩ := h
  obtain ⟨u1, u2, rfl, r1, r2⟩ := vals2 r
  cases (show u1 = Value.ref a from r1)
  have e2 := k.eq r2
  subst e2
  obtain ⟨oe, J⟩ := caO_at I ha
  exact PySem.W.kia_one (PySem.W.handS_kitx_exc C.hg C.hk C.hs C.hd C.ha C.hn C.ht C.hm) I.kIn J e (fun z => nomatch z) fun tk => ⟨.bl b, H, I.tok tk, rfl, q⟩
theorem kc_isCT (e : X.K = K) : CallR X (.builtin "isinstance") (rIsCT K) := by
  subst e
  intro pins s σ H xs us Q I r h
  obtain ⟨a, D, tp, cs, ws, b, rfl, ha, C, hT, k, e, q⟩ := h
  obtain ⟨u1, u2, rfl, r1, r2⟩ := vals2 r
  cases (show u1 = Value.ref a from r1)
  cases (show u2 = Value.ref tp from r2)
  obtain ⟨oe, J⟩ := caO_at I ha
  obtain ⟨_, its, rv, o, h1, h2, n, h3⟩ := (show ObjOk X.prog X.w H s.heap tp (.tup cs) from I.hok tp _ hT)
  have e3 := ClsV.all k rv
  subst e3
  obtain ⟨oc, od, dt, sl⟩ := o
  dsimp only at h2 h3
  subst h2 h3
  exact PySem.W.kia_tup (PySem.W.handS_kitx_exc C.hg C.hk C.hs C.hd C.ha C.hn C.ht C.hm) I.kIn J h1 e (fun z => nomatch z) fun tk => ⟨.bl b, H, I.tok tk, rfl, q⟩
end
/-! ## calls of defs that raise -/
section
variable {X : Cx} {k : Nat} {ps : List Str} {sp : Sp} {W : WX} {x : Str} {st : Stmt} {p pos : Pos} {e : Expr} {es : List Expr} {t tk : TA} {kws : List Keyword} {ks : List Str}
  {g : List Value → List Value → List Value} {gV : List V → List V → List V}
/-- what a def lets out goes on as it is -/
theorem passT {E : XK} (tk : Takes X (fun cls d _ H => E cls d H)) : Passes (L2.CX X.prog X.w) X E := fun _ _ _ _ e s' I c => tk e s' (XE.of_call I (fun _ _ _ h => h) c)
theorem Dok.afterW {f : Addr} {fd : FuncData} (F : Dok X.prog X.w X.K X.mg X.base (L2.CX X.prog X.w) k f fd ps sp) (hr : Rm k X.A) (hx : Takes X W) {pins : List (Addr × Obj)} {σ : L2.St} {H : Hp} {s : Shared} {Q : VK} {args : Args} {us : List Value} {vs : List V}
    (I : Inv X pins σ H s) (r : Vals vs us) (hb : BindsTo s fd args (ps.zip us)) (h : sp vs H Q (fun cls d H' => W cls d σ H')) : codeAny (model X.prog X.w) X.A (.call (.ref f) args) (fun r s' => match r with | .ok (.ret u) => EP X pins σ Q u s' | .ok _ => False | .error e => X.xe e s') s := by
  refine codeAny_mono (F.run X.A X.stack s H args us vs Q _ hr I.env0 hb r h) fun o s' q => ?_
  cases o with
  | error e => exact hx e s' (XE.of_call I (fun _ _ _ h => h) q)
  | ok fl =>
    cases fl with
    | ret u => exact I.after q
    | next => exact q.elim
    | brk => exact q.elim
    | cont => exact q.elim
/-- f(k = v, ..) in a try -/
def tCallW (sp : Sp) (gV : List V → List V → List V) (W : WX) (tk : TA) : TE := fun σ H Q => tk σ H fun zs H2 => sp (gV [] zs) H2 Q (fun cls d H' => W cls d σ H')
theorem c_callW (c : Cal X.prog X.w X.K X.mg X.base (L2.CX X.prog X.w) k x st ps sp) (hr : Rm k X.A) (hx : Takes X W) (hkw : PK X kws tk)
    (h : ∀ (kV doc pm : Value) (an : Option Addr) (cdv ct : Value) (us ws : List Value), (g us ws).length = ps.length →
      bindArgs (PySem.W.fnOf x x (defArgs st) (defBody st) (defScope st) .none kV doc pm an cdv ct) ⟨us, ks.zip ws⟩ = pure (ps.zip (g us ws)))
    (rel : ∀ {vs : List V} {us : List Value} {zs : List V} {ws : List Value}, Vals vs us → Vals zs ws → Vals (gV vs zs) (g us ws)) (hg : Gl X x := by rfl)
    (hall : (backToKw pos (keywordEach kws X.env)).all (·.1.isSome) = true := by rfl) (hks : (backToKw pos (keywordEach kws X.env)).filterMap (·.1) = ks := by rfl)
    (hdb : (x == ("__debug__" : Str)) = false := by decide)
    (hpl : ((backTo pos (starEach [] X.env)).any (·.1) || (backToKw pos (keywordEach kws X.env)).any (·.1.isNone)) = false := by rfl) :
    PE X (.Call (.Name x p) [] kws pos) (tCallW sp gV W tk) := by
  obtain ⟨f, fd, o, d⟩ := c
  have hb : KBinds X.K fd ps ks g gV := kbOf o.F h rel
  refine ⟨fun pins s σ H Q I q => wpAny_Call_Name_kw (ld_glob I hg o.g (PySem.W.callWith_KW0 (h₀ := X.base) I.ok.mod.kin o.F.kp hall (thn (hkw.run pos pins s σ H _ I q) ?_) hpl) hdb)⟩
  rintro ws s2 ⟨zs, H2, I2, rz, q2⟩
  refine ⟨I2.kIn, ?_⟩
  rw [hks]
  have r2 := hb.rel (.nil : Vals [] []) rz
  refine ends (d.afterW hr hx I2 r2 (hb.to s2 [] ws I2.kIn ?_) q2)
  rw [← r2.length]
  exact d.len _ _ _ _ q2
/-- f(a, ..) in a try -/
def tCallP (sp : Sp) (W : WX) (t : TA) : TE := fun σ H Q => t σ H fun vs H2 => sp (vs ++ []) H2 Q (fun cls d H' => W cls d σ H')
theorem c_callP (c : Cal X.prog X.w X.K X.mg X.base (L2.CX X.prog X.w) k x st ps sp) (hr : Rm k X.A) (hx : Takes X W) (ha : PA X (e :: es) t) (hg : Gl X x := by rfl)
    (hdb : (x == ("__debug__" : Str)) = false := by decide) (he : starEach (e :: es) X.env = (false, eval e X.env) :: starEach es X.env := by rfl) (hpl : (backTo pos (starEach es X.env)).any (·.1) = false := by rfl) :
    PE X (.Call (.Name x p) (e :: es) [] pos) (tCallP sp W t) := by
  obtain ⟨f, fd, o, d⟩ := c
  refine ⟨fun pins s σ H Q I q => wpAny_Call_Name_kw (ld_glob I hg o.g (PySem.W.callWith_K (h₀ := X.base) I.ok.mod.kin o.F.kp (thn (ha.run pos pins s σ H _ I q) ?_) he hpl) hdb)⟩
  rintro us s1 ⟨vs, H1, I1, r, q1⟩
  refine ⟨I1.kIn, ?_⟩
  have r2 : Vals (vs ++ []) (us ++ []) := r.append .nil
  refine ends (d.afterW hr hx I1 r2 (o.b s1 us I1.kIn ?_) q1)
  rw [← r2.length]
  exact d.len _ _ _ _ q1
end
/-! ## facts of classes, put together -/
section
open PySem.W
variable {K : PySem.W.Frag} {t c : Value} {C : Addr} {b d : Bool} {r : List Value} {T : String}
theorem exmAny_mk (h1 : exmOne K t c = some b) (h2 : exmAny K t r = some d) : exmAny K t (c :: r) = some (b || d) := by
  unfold exmAny
  rw [h1, h2]
theorem kit_ref (h1 : hasDictIn K C = true) (h2 : typeIn K (.ref C) = some (.type "type")) (h3 : subIn K t (.ref C) = some b) (h4 : t = .ref C → b = true) : kitOne K t (.ref C) = some b := by
  unfold kitOne
  by_cases e : (t == .ref C) = true
  · rw [if_pos e, h4 (beq_iff_eq.mp e)]
  · rw [if_neg e]
    obtain ⟨cd, hc, _⟩ := any_some h1
    have e2 : ((clsIn K C).isSome && typeIn K (.ref C) == some (.type "type")) = true := by rw [hc, h2] <;> rfl
    show (if ((clsIn K C).isSome && typeIn K (.ref C) == some (.type "type")) = true then subIn K t (.ref C) else none) = some b
    rw [if_pos e2]
    exact h3
theorem kit_typ (m : kitMeta T = true) (h : subIn K (.ref C) (.type T) = some b) : kitOne K (.ref C) (.type T) = some b := by
  unfold kitOne
  rw [if_neg (fun e => by cases (beq_iff_eq.mp e))]
  show (if kitMeta T = true then subIn K (.ref C) (.type T) else none) = some b
  rw [if_pos m]
  exact h
theorem kitAny_mk (h1 : kitOne K t c = some false) (h2 : kitAny K t r = some false) : kitAny K t (c :: r) = some false := kitAny_cons h1 (fun _ => h2) (fun e => nomatch e)
end
end Xi

namespace Xi
open PySem PySem.Spec PyProof.Rows L2
/-! ## numbers, data of whole numbers -/
theorem fmod_lt {a c : Int} (hc : 0 < c) : 0 ≤ a.fmod c ∧ a.fmod c < c := by
  rw [Int.fmod_eq_emod_of_nonneg a (by omega)]
  exact ⟨Int.emod_nonneg a (by omega), Int.emod_lt_of_pos a hc⟩
theorem fdiv_bd {a c : Int} (ha : 0 ≤ a) (hc : 0 < c) : 0 ≤ a.fdiv c := by
  rw [Int.fdiv_eq_ediv_of_nonneg a (by omega)]
  exact Int.ediv_nonneg ha (by omega)
theorem fmod2 (a : Int) : a.fmod 2 = a % 2 := Int.fmod_eq_emod_of_nonneg a (by decide)
theorem fdiv2 (a : Int) : a.fdiv 2 = a / 2 := Int.fdiv_eq_ediv_of_nonneg a (by decide)
theorem bits_lt {i : Int} {m : Nat} (h : i.natAbs < 2 ^ m) (hm : 0 < m) : Builtin.Int.intBits i ≤ m := by
  unfold Builtin.Int.intBits
  split
  · omega
  · have := PySem.Flt.log2_lt_of hm h
    omega
theorem powk {i k : Int} {m : Nat} (h : i.natAbs < 2 ^ m) (hm : 0 < m) (h2 : m ≤ 1000000) (k0 : 0 ≤ k) (k5 : k ≤ 64) : (0 : Int) ≤ k ∧ (Builtin.Int.intBits i : Int) * k ≤ 2 ^ 27 := by
  have b := bits_lt h hm
  refine ⟨k0, ?_⟩
  have e : (2 : Int) ^ 27 = 134217728 := by decide
  have c : (Builtin.Int.intBits i : Int) * k ≤ (Builtin.Int.intBits i : Int) * 64 := Int.mul_le_mul_of_nonneg_left k5 (by omega)
  omega
theorem at_mem {xs : List V} {r : Int} (h0 : 0 ≤ r) (h1 : r < (xs.length : Int)) : ∃ v, atI xs r = some v ∧ v ∈ xs := by
  obtain ⟨j, rfl⟩ := Int.eq_ofNat_of_zero_le h0
  have hj : j < xs.length := by omega
  exact ⟨xs[j], atI_nat (List.getElem?_eq_getElem hj), List.getElem_mem hj⟩
theorem repr_facts {n : Nat} {d : PyData} (s : prt n d) (l : wt d ≤ 10000000) (hn : n ≤ 60 := by decide) : d.showable = true ∧ SeqAt.shaped d = true ∧ d.shown.length ≤ sizeLine := by
  obtain ⟨x, y⟩ := shown_le s
  refine ⟨x, shaped_of (prt_shp s) hn, ?_⟩
  have e : sizeLine = 16777216 := by rw [sizeLine_eq]
  rw [e]
  omega
def intsD (ns : List Int) : PyData := .list (ns.map PyData.int)
theorem dt_intsL {H : Hp} {q : Addr} {ns : List Int} (e : H q = some (.lst (ns.map V.int))) : Dt H (.ref q) (intsD ns) := .lst e (dt_ints ns)
theorem shp_ints (ns : List Int) : shp 1 (intsD ns) := shp_list fun d hd => by
  obtain ⟨z, _, rfl⟩ := List.mem_map.mp hd
  exact True.intro
/-- numbers of at most thirty figures -/
theorem prt_ints {ns : List Int} (h : ∀ z ∈ ns, z.natAbs < 10 ^ 31) : prt 1 (intsD ns) := prt_list fun d hd => by
  obtain ⟨z, hz, rfl⟩ := List.mem_map.mp hd
  exact h z hz
theorem wt_ints (ns : List Int) : wt (intsD ns) ≤ ns.length * 42 + 2 := by
  have e := wtAll_le (m := 40) (ds := ns.map PyData.int) fun d hd => by
    obtain ⟨z, _, rfl⟩ := List.mem_map.mp hd
    exact Nat.le_refl 40
  rw [List.length_map] at e
  show wtAll (ns.map PyData.int) + 2 ≤ _
  omega
theorem repr_ints {ns : List Int} (h : ∀ z ∈ ns, z.natAbs < 10 ^ 31) (l : ns.length ≤ 200000) : (intsD ns).showable = true ∧ SeqAt.shaped (intsD ns) = true ∧ (intsD ns).shown.length ≤ sizeLine :=
  repr_facts (prt_ints h) (by have := wt_ints ns; omega)
theorem eqv_ints : ∀ (a b : List Int), PyData.eqvAll (a.map PyData.int) (b.map PyData.int) = decide (a = b)
  | [], [] => rfl
  | [], _ :: _ => rfl
  | _ :: _, [] => rfl
  | x :: a, y :: b => by
    show (PyData.eqv (.int x) (.int y) && PyData.eqvAll (a.map PyData.int) (b.map PyData.int)) = _
    rw [eqv_ints a b]
    by_cases c : x = y
    · subst c
      simp [PyData.eqv]
    · simp [PyData.eqv, c]
theorem eqv_ints_nil (a : List Int) : PyData.eqv (intsD a) (intsD []) = decide (a = []) := eqv_ints a []
theorem inV_int (z : Int) (fs : List Int) : inV (.int z) (fs.map V.int) = decide (z ∈ fs) := by
  have e : ∀ y : Int, eqV (.int y) (.int z) = decide (y = z) := fun y => by
    by_cases c : y = z
    · subst c
      simp [eqV]
    · rw [decide_eq_false c]
      simp [eqV, c]
  induction fs with
  | nil => rfl
  | cons y r ih =>
    show (eqV (.int y) (.int z) || inV (.int z) (r.map V.int)) = _
    rw [ih, e]
    by_cases c : y = z
    · simp [c]
    · have c' : ¬ z = y := fun q => c q.symm
      simp [c, c']
theorem inc_unique : ∀ {a b : List Int}, a.Pairwise (· < ·) → b.Pairwise (· < ·) → (∀ k, k ∈ a ↔ k ∈ b) → a = b
  | [], [], _, _, _ => rfl
  | [], y :: b, _, _, h => nomatch (h y).mpr List.mem_cons_self
  | x :: a, [], _, _, h => nomatch (h x).mp List.mem_cons_self
  | x :: a, y :: b, ha, hb, h => by
    rw [List.pairwise_cons] at ha hb
    have e : x = y := by
      have h1 := (h x).mp List.mem_cons_self
      have h2 := (h y).mpr List.mem_cons_self
      rcases List.mem_cons.mp h1 with e | h1
      · exact e
      · rcases List.mem_cons.mp h2 with e | h2
        · exact e.symm
        · have := ha.1 y h2
          have := hb.1 x h1
          omega
    subst e
    congr 1
    refine inc_unique ha.2 hb.2 fun k => ?_
    constructor
    · intro hk
      rcases List.mem_cons.mp ((h k).mp (List.mem_cons_of_mem _ hk)) with e | q
      · subst e
        have := ha.1 k hk
        omega
      · exact q
    · intro hk
      rcases List.mem_cons.mp ((h k).mpr (List.mem_cons_of_mem _ hk)) with e | q
      · subst e
        have := hb.1 k hk
        omega
      · exact q
structure IsMin (ns : List Int) (m : Int) : Prop where
  mem : m ∈ ns
  le : ∀ y ∈ ns, m ≤ y
structure IsMax (ns : List Int) (m : Int) : Prop where
  mem : m ∈ ns
  le : ∀ y ∈ ns, y ≤ m
theorem IsMin.eq {ns : List Int} {a b : Int} (h : IsMin ns a) (g : IsMin ns b) : a = b := by
  have := h.le b g.mem
  have := g.le a h.mem
  omega
theorem IsMax.eq {ns : List Int} {a b : Int} (h : IsMax ns a) (g : IsMax ns b) : a = b := by
  have := h.le b g.mem
  have := g.le a h.mem
  omega
/-- the greatest of what S holds of -/
structure Top (S : Int → Prop) (b : Int) : Prop where
  mem : S b
  le : ∀ v, S v → v ≤ b
theorem Top.eq {S T : Int → Prop} {a b : Int} (h : Top S a) (g : Top T b) (e : ∀ v, S v ↔ T v) : a = b := by
  have := h.le b ((e b).mpr g.mem)
  have := g.le a ((e a).mp h.mem)
  omega
/-- one more -/
theorem Top.or {S T : Int → Prop} {a c : Int} (h : Top S a) (e : ∀ v, T v ↔ S v ∨ v = c) : Top T (if c > a then c else a) := by
  constructor
  · split
    · exact (e _).mpr (.inr rfl)
    · exact (e _).mpr (.inl h.mem)
  · intro v hv
    rcases (e v).mp hv with q | q
    · have := h.le v q
      split <;> omega
    · split <;> omega
/-- sums of the numbers ahead of a place -/
def pre (f : Nat → Int) : Nat → Int
  | 0 => 0
  | n + 1 => pre f n + f n
theorem pre_succ (f : Nat → Int) (n : Nat) : pre f (n + 1) = pre f n + f n := rfl
theorem pre_congr {f g : Nat → Int} : ∀ {n : Nat}, (∀ i, i < n → f i = g i) → pre f n = pre g n
  | 0, _ => rfl
  | n + 1, h => by rw [pre_succ, pre_succ, pre_congr fun i hi => h i (Nat.lt_succ_of_lt hi), h n (Nat.lt_succ_self n)]
theorem pre_neg (f : Nat → Int) : ∀ n, pre (fun i => -f i) n = -pre f n
  | 0 => rfl
  | n + 1 => by rw [pre_succ, pre_succ, pre_neg f n]; omega
theorem pre_bd {f : Nat → Int} {c : Int} : ∀ {n : Nat}, (∀ i, i < n → -c ≤ f i ∧ f i ≤ c) → -(c * n) ≤ pre f n ∧ pre f n ≤ c * n
  | 0, _ => by simp [pre]
  | n + 1, h => by
    have a := pre_bd (n := n) fun i hi => h i (Nat.lt_succ_of_lt hi)
    have b := h n (Nat.lt_succ_self n)
    rw [pre_succ, show ((n + 1 : Nat) : Int) = (n : Int) + 1 by omega, Int.mul_add, Int.mul_one]
    omega
/-! ## lists of whole numbers, walked -/
theorem ints_at {fs : List Int} {i : Nat} {x : V} (h : (fs.map V.int)[i]? = some x) : ∃ c, fs[i]? = some c ∧ x = .int c := by
  rw [List.getElem?_map] at h
  cases e : fs[i]? with
  | none => rw [e] at h; cases h
  | some c => rw [e] at h; exact ⟨c, rfl, (Option.some.inj h).symm⟩
theorem drop_at {α : Type} {fs : List α} {i : Nat} {c : α} (h : fs[i]? = some c) : fs.drop i = c :: fs.drop (i + 1) := by
  have hlt : i < fs.length := (List.getElem?_eq_some_iff.mp h).1
  rw [List.drop_eq_getElem_cons hlt]
  rw [List.getElem?_eq_getElem hlt] at h
  rw [Option.some.inj h]
theorem atI_get {fs : List Int} {k : Int} {i : Nat} (e : k = (i : Int)) (h : i < fs.length) : atI (fs.map V.int) k = some (.int (fs.getD i 0)) := by
  subst e
  exact atI_nat (by rw [List.getElem?_map, List.getElem?_eq_getElem h, List.getD_eq_getElem?_getD, List.getElem?_eq_getElem h] <;> rfl)
section
variable {X : Cx}
theorem kc_max3 (hc : X.calm = true) : CallR X (.builtin "max") (fun xs H Q => ∃ i j k, xs = [.int i, .int j, .int k] ∧ Q (.int (if k > (if j > i then j else i) then k else (if j > i then j else i))) H) := by
  intro pins s σ H xs us Q I r h
  obtain ⟨i, j, k, rfl, q⟩ := h
  refine call_max3Nu hc pins s σ H _ us Q I r ⟨_, _, _, _, rfl, ?_, q⟩
  have e : ∀ a b : Int, nuMax2 (.int a) (.int b) = some (.int (if b > a then b else a)) := fun a b => by
    show ((some (decide (a < b))).map fun c => if c = true then V.int b else V.int a) = _
    by_cases c : a < b
    · rw [decide_eq_true c, if_pos c] <;> rfl
    · rw [decide_eq_false c, if_neg c] <;> rfl
  unfold nuMax3
  rw [e]
  exact e _ _
end
/-! ## draws from a reel -/
def sp_pull0 : Sp := fun vs H Q _ => ∃ (p : Addr) (x y z c : Int) (n : Nat), vs = [.ref p, .int c] ∧ H p = some (reelL x y z) ∧ RB (n + 1) x y z ∧ 0 < c ∧ c < 2 ^ 29 ∧
  ∀ x' z' r, RB n x' y z' → 0 ≤ r → r < c → Q (.int r) (upd H p (reelL x' y z'))
/-- a draw: 0 <= r < c -/
def sp_pull : Sp := fun vs H Q _ => ∃ (p : Addr) (c : Int) (n : Nat), vs = [.ref p, .int c] ∧ H p = some (rl n p) ∧ 1 ≤ n ∧ 0 < c ∧ c < 2 ^ 29 ∧
  ∀ r H', Sr p n (n - 1) H H' → 0 ≤ r → r < c → Q (.int r) H'
theorem pull_of {P : Program} {w : World} {K : PySem.W.Frag} {mg : Str → Option Value} {base : Heap} {f : Addr} {fd : FuncData} {ps : List Str} (z : Dok P w K mg base CX0 1 f fd ps sp_pull0) (hl : ps.length = 2) : Dok P w K mg base CX0 1 f fd ps sp_pull := by
  refine Dok.reel z (fun vs H Q E h => ?_) (fun vs H Q E h => ?_)
  · obtain ⟨p, c, n, rfl, _⟩ := h
    exact hl.symm
  obtain ⟨p, c, n, rfl, hp, n1, c0, c1, k⟩ := h
  obtain ⟨m, rfl⟩ : ∃ m, n = m + 1 := ⟨n - 1, by omega⟩
  refine ⟨p, m + 1, hp, fun x y z b => ⟨p, x, y, z, c, m, rfl, upd_same, b, c0, c1, fun x' z' r b' r0 r1 => ?_⟩⟩
  refine ⟨H, p, x', y, z', m, b', upd_upd, k r _ ⟨hp, upd_same, fun b o d e => ?_⟩ r0 r1⟩
  rw [upd_ne d]
  exact e
/-- the first draw of a row of them gives one of a few whole numbers -/
theorem pick {xs : List Int} {r : Int} (h0 : 0 ≤ r) (h1 : r < (xs.length : Int)) : ∃ i, atI (xs.map V.int) r = some (.int i) ∧ i ∈ xs := by
  obtain ⟨v, e, m⟩ := at_mem (xs := xs.map V.int) h0 (by rw [List.length_map]; exact h1)
  obtain ⟨i, hi, rfl⟩ := List.mem_map.mp m
  exact ⟨i, e, hi⟩
def sp_spool0 (K : PySem.W.Frag) : Sp := fun vs H Q _ => ∃ (a : Addr) (ns : List Int) (k : Int), vs = [.ref a, .int k] ∧ SqL K H a (ns.map V.int) ∧ 0 ≤ k ∧ k ≤ 1000 ∧
  ∀ p x y, H p = none → RB 1000000 x y 0 → Q (.ref p) (upd H p (reelL x y 0))
/-- a new reel, good for a million draws -/
def sp_spool (K : PySem.W.Frag) : Sp := fun vs H Q _ => ∃ (a : Addr) (ns : List Int) (k : Int), vs = [.ref a, .int k] ∧ SqL K H a (ns.map V.int) ∧ 0 ≤ k ∧ k ≤ 1000 ∧
  ∀ p H', H p = none → Same H H' → H' p = some (rl 1000000 p) → Q (.ref p) H'
theorem spool_of {P : Program} {w : World} {K : PySem.W.Frag} {mg : Str → Option Value} {base : Heap} {f : Addr} {fd : FuncData} {ps : List Str} (z : Dok P w K mg base CX0 1 f fd ps (sp_spool0 K)) : Dok P w K mg base CX0 1 f fd ps (sp_spool K) := by
  refine Dok.made z (fun vs H Q E h => ?_)
  obtain ⟨a, ns, k, rfl, hS, k0, k1, q⟩ := h
  exact ⟨a, ns, k, rfl, hS, k0, k1, fun p x y hp b => ⟨H, p, x, y, 0, 1000000, b, rfl, q p _ hp (same_new hp) upd_same⟩⟩
/-! ## the greatest sum of a stretch, walked -/
theorem ixn {n i : Nat} (h : i < n) : ixN n (i : Int) = some i := by
  unfold ixN
  rw [if_pos (by omega), if_pos (by omega)]
  rfl
/-- here: the greatest sum of a stretch that ends ahead of n, or nought -/
def Kd (f : Nat → Int) (n : Nat) (h : Int) : Prop := Top (fun v => v = 0 ∨ ∃ i, i < n ∧ v = pre f n - pre f i) h
/-- sums of stretches of f ahead of n, beside what S holds -/
def Kb (S : Int → Prop) (f : Nat → Int) (n : Nat) : Int → Prop := fun v => S v ∨ ∃ i j, i < j ∧ j ≤ n ∧ v = pre f j - pre f i
theorem kd_zero (f : Nat → Int) : Kd f 0 0 := ⟨.inl rfl, fun v h => by
  rcases h with rfl | ⟨i, hi, _⟩
  · exact Int.le_refl _
  · omega⟩
theorem kd_step {f : Nat → Int} {n : Nat} {h : Int} (k : Kd f n h) : Kd f (n + 1) (if h + f n > 0 then h + f n else 0) := by
  have h0 : 0 ≤ h := k.le 0 (.inl rfl)
  constructor
  · split
    · refine .inr ?_
      rcases k.mem with e | ⟨i, hi, e⟩
      · exact ⟨n, Nat.lt_succ_self n, by rw [pre_succ]; omega⟩
      · exact ⟨i, Nat.lt_succ_of_lt hi, by rw [pre_succ]; omega⟩
    · exact .inl rfl
  · rintro v (rfl | ⟨i, hi, rfl⟩)
    · split <;> omega
    · rw [pre_succ]
      rcases Nat.lt_or_ge i n with c | c
      · have := k.le _ (.inr ⟨i, c, rfl⟩)
        split <;> omega
      · have e : i = n := by omega
        subst e
        split <;> omega
theorem kb_zero (S : Int → Prop) (f : Nat → Int) (v : Int) : Kb S f 0 v ↔ S v := ⟨fun h => by
  rcases h with h | ⟨i, j, a, b, _⟩
  · exact h
  · omega, .inl⟩
theorem Top.congr {S T : Int → Prop} {b : Int} (h : Top S b) (e : ∀ v, S v ↔ T v) : Top T b := ⟨(e b).mp h.mem, fun v hv => h.le v ((e v).mpr hv)⟩
theorem kb_step {S : Int → Prop} {f : Nat → Int} {n : Nat} {h b : Int} (s0 : S 0) (k : Kd f (n + 1) h) (t : Top (Kb S f n) b) : Top (Kb S f (n + 1)) (if h > b then h else b) := by
  constructor
  · split
    · rcases k.mem with e | ⟨i, hi, e⟩
      · rw [e]
        exact .inl s0
      · exact .inr ⟨i, n + 1, hi, Nat.le_refl _, e⟩
    · rcases t.mem with e | ⟨i, j, a, b, e⟩
      · exact .inl e
      · exact .inr ⟨i, j, a, Nat.le_succ_of_le b, e⟩
  · rintro v (c | ⟨i, j, a, c, rfl⟩)
    · have := t.le v (.inl c)
      split <;> omega
    · rcases Nat.lt_or_ge n j with d | d
      · have e : j = n + 1 := by omega
        subst e
        have := k.le _ (.inr ⟨i, a, rfl⟩)
        split <;> omega
      · have := t.le _ (.inr ⟨i, j, a, d, rfl⟩)
        split <;> omega
theorem top_zero : Top (fun v => v = 0) 0 := ⟨rfl, fun v h => by omega⟩
theorem same_tt {Q : VK} {H : Hp} {x y : V} (e : x = y) (q : Q (.bl true) H) : Q (.bl (decide (x = y))) H := by
  rw [decide_eq_true e]
  exact q
theorem bl_tt {x y : V} (e : x = y) : V.bl (decide (x = y)) = V.bl true := by rw [decide_eq_true e]
theorem bl_ff {x y : V} (e : x ≠ y) : V.bl (decide (x = y)) = V.bl false := by rw [decide_eq_false e]
theorem bl_nn {x y : V} (e : x = y) : V.bl (!decide (x = y)) = V.bl false := by rw [decide_eq_true e] <;> rfl
theorem bl_ny {x y : V} (e : x ≠ y) : V.bl (!decide (x = y)) = V.bl true := by rw [decide_eq_false e] <;> rfl
/-! ## a list of own lists -/
/-- at D a list of lists, each its own and none there in Hb -/
structure LLs (Hb : Hp) (D : Addr) (H : Hp) (rs : List Addr) (ls : List (List Int)) : Prop where
  at_ : H D = some (.lst (rs.map V.ref))
  len : rs.length = ls.length
  nd : rs.Nodup
  get : ∀ (j : Nat) (r : Addr), rs[j]? = some r → Hb r = none ∧ r ≠ D ∧ ∃ l, ls[j]? = some l ∧ H r = some (.lst (l.map V.int))
section
variable {Hb H H' H0 : Hp} {D D2 r : Addr} {rs rs2 : List Addr} {ls ls2 : List (List Int)} {l : List Int}
theorem LLs.same (h : LLs Hb D H rs ls) (s : Same H H') : LLs Hb D H' rs ls := ⟨s _ _ h.at_, h.len, h.nd, fun j r e => by
  obtain ⟨a, b, l, c, d⟩ := h.get j r e
  exact ⟨a, b, l, c, s _ _ d⟩⟩
theorem LLs.nil : LLs Hb D (upd H D (.lst [])) [] [] := ⟨upd_same, rfl, List.nodup_nil, fun j r e => by simp at e⟩
theorem LLs.push (h : LLs Hb D H rs ls) (nr : H r = none) (hb : Hb r = none) : LLs Hb D (upd (upd H r (.lst (l.map V.int))) D (.lst (rs.map V.ref ++ [.ref r]))) (rs ++ [r]) (ls ++ [l]) := by
  have rD : r ≠ D := (ne_of_none h.at_ nr).symm
  refine ⟨by rw [upd_same, List.map_append] <;> rfl, by rw [List.length_append, List.length_append, h.len] <;> rfl, ?_, fun j r' e => ?_⟩
  · refine List.nodup_append.mpr ⟨h.nd, by simp, fun y hy z hz => ?_⟩
    simp only [List.mem_singleton] at hz
    subst hz
    obtain ⟨j, hj⟩ := List.mem_iff_getElem?.mp hy
    obtain ⟨_, _, _, _, d⟩ := h.get j y hj
    exact ne_of_none d nr
  · by_cases hj : j < rs.length
    · rw [List.getElem?_append_left hj] at e
      obtain ⟨a, b, l', c, d⟩ := h.get j r' e
      refine ⟨a, b, l', by rw [List.getElem?_append_left (by rw [← h.len]; exact hj)]; exact c, ?_⟩
      rw [upd_ne b, upd_ne (ne_of_none d nr)]
      exact d
    · have ej : j = rs.length := by
        have := (List.getElem?_eq_some_iff.mp e).1
        simp at this
        omega
      subst ej
      rw [List.getElem?_append_right (Nat.le_refl _), Nat.sub_self] at e
      cases (Option.some.inj e : r = r')
      refine ⟨hb, rD, l, by rw [h.len, List.getElem?_append_right (Nat.le_refl _), Nat.sub_self] <;> rfl, ?_⟩
      rw [upd_ne rD]
      exact upd_same
theorem nd_at {rs : List Addr} (nd : rs.Nodup) {i j : Nat} {r : Addr} (a : rs[i]? = some r) (b : rs[j]? = some r) : i = j := by
  obtain ⟨hi, ei⟩ := List.getElem?_eq_some_iff.mp a
  obtain ⟨hj, ej⟩ := List.getElem?_eq_some_iff.mp b
  exact (List.getElem_inj nd).mp (ei.trans ej.symm)
theorem LLs.put (h : LLs Hb D H rs ls) {j : Nat} (e : rs[j]? = some r) : LLs Hb D (upd H r (.lst (l.map V.int))) rs (ls.set j l) := by
  obtain ⟨a, b, l0, c, d⟩ := h.get j r e
  refine ⟨by rw [upd_ne b.symm]; exact h.at_, by rw [List.length_set]; exact h.len, h.nd, fun i r' e' => ?_⟩
  obtain ⟨a', b', l', c', d'⟩ := h.get i r' e'
  by_cases hij : i = j
  · subst hij
    cases (Option.some.inj (e'.symm.trans e) : r' = r)
    have hl : i < ls.length := (List.getElem?_eq_some_iff.mp c').1
    exact ⟨a, b, l, List.getElem?_set_self hl, upd_same⟩
  · have ne : r' ≠ r := fun z => hij (nd_at h.nd e' (z ▸ e))
    refine ⟨a', b', l', by rw [List.getElem?_set_ne (fun z => hij z.symm)]; exact c', by rw [upd_ne ne]; exact d'⟩
theorem LLs.ext (h : LLs Hb D H rs ls) (g : LLs H0 D2 H rs2 ls2) (old : LLs Hb D H0 rs ls) (sub : ∀ r, H0 r = none → Hb r = none) : LLs Hb D (upd H D (.lst (rs.map V.ref ++ rs2.map V.ref))) (rs ++ rs2) (ls ++ ls2) := by
  refine ⟨by rw [upd_same, List.map_append], by rw [List.length_append, List.length_append, h.len, g.len], ?_, fun j r' e => ?_⟩
  · refine List.nodup_append.mpr ⟨h.nd, g.nd, fun y hy z hz q => ?_⟩
    subst q
    obtain ⟨i, hi⟩ := List.mem_iff_getElem?.mp hy
    obtain ⟨j, hj⟩ := List.mem_iff_getElem?.mp hz
    obtain ⟨_, _, _, _, d⟩ := old.get i y hi
    obtain ⟨d2, _⟩ := g.get j y hj
    rw [d2] at d
    cases d
  · by_cases hj : j < rs.length
    · rw [List.getElem?_append_left hj] at e
      obtain ⟨a, b, l', c, d⟩ := h.get j r' e
      refine ⟨a, b, l', by rw [List.getElem?_append_left (by rw [← h.len]; exact hj)]; exact c, ?_⟩
      rw [upd_ne b]
      exact d
    · rw [List.getElem?_append_right (by omega)] at e
      obtain ⟨a, b, l', c, d⟩ := g.get _ r' e
      have rD : r' ≠ D := (ne_of_none old.at_ a).symm
      refine ⟨sub _ a, rD, l', by rw [List.getElem?_append_right (by rw [← h.len]; omega), ← h.len]; exact c, ?_⟩
      rw [upd_ne rD]
      exact d
theorem LLs.item (h : LLs Hb D H rs ls) {j : Nat} (hj : j < ls.length) : ∃ r l, rs[j]? = some r ∧ ls[j]? = some l ∧ atI (rs.map V.ref) (j : Int) = some (.ref r) ∧ H r = some (.lst (l.map V.int)) := by
  have hj2 : j < rs.length := by rw [h.len]; exact hj
  obtain ⟨a, b, l, c, d⟩ := h.get j rs[j] (List.getElem?_eq_getElem hj2)
  exact ⟨rs[j], l, List.getElem?_eq_getElem hj2, c, atI_nat (by rw [List.getElem?_map, List.getElem?_eq_getElem hj2] <;> rfl), d⟩
/-- seen from a heap with less in it -/
theorem LLs.sub {Hc : Hp} (h : LLs Hb D H rs ls) (s : ∀ r, Hb r = none → Hc r = none) : LLs Hc D H rs ls := ⟨h.at_, h.len, h.nd, fun j r e => by
  obtain ⟨a, b⟩ := h.get j r e
  exact ⟨s _ a, b⟩⟩
/-- as data -/
theorem LLs.dt (h : LLs Hb D H rs ls) : Dt H (.ref D) (.list (ls.map intsD)) := by
  refine .lst h.at_ ?_
  have core : ∀ (rs : List Addr) (ls : List (List Int)), rs.length = ls.length → (∀ (j : Nat) (r : Addr), rs[j]? = some r → ∃ l, ls[j]? = some l ∧ H r = some (.lst (l.map V.int))) → DtAll H (rs.map V.ref) (ls.map intsD) := by
    intro rs
    induction rs with
    | nil =>
      intro ls hl _
      cases ls with
      | nil => exact .nil
      | cons l ls => cases hl
    | cons r rs ih =>
      intro ls hl h
      cases ls with
      | nil => cases hl
      | cons l ls =>
        obtain ⟨l', e1, e2⟩ := h 0 r rfl
        cases (Option.some.inj e1 : l = l')
        exact .cons (dt_intsL e2) (ih ls (Nat.succ.inj hl) fun j r e => h (j + 1) r e)
  exact core rs ls h.len fun j r e => (h.get j r e).2.2
theorem LLs.new (h : LLs Hb D H rs ls) (s : ∀ b o, b ≠ D → b ∉ rs → Hb b = some o → H b = some o) (nD : Hb D = none) : Same Hb H := fun b o e => by
  refine s b o (ne_of_none e nD) (fun hm => ?_) e
  obtain ⟨j, hj⟩ := List.mem_iff_getElem?.mp hm
  rw [(h.get j b hj).1] at e
  cases e
end
section
variable {X : Cx} {K : PySem.W.Frag}
theorem kc_sum (e : X.K = K) (hc : X.calm = true) : CallR X (.builtin "sum") (rSum K) := by
  subst e
  exact cr_sum hc
end
theorem map_range_set {m j : Nat} {F G : Nat → List Int} (e : ∀ h, h < m → h ≠ j → G h = F h) : (List.range m).map G = ((List.range m).map F).set j (G j) := by
  refine List.ext_getElem? fun i => ?_
  by_cases hi : i < m
  · by_cases c : j = i
    · subst c
      rw [List.getElem?_set_self (by simp [hi]), List.getElem?_map, List.getElem?_range hi] <;> rfl
    · rw [List.getElem?_set_ne c, List.getElem?_map, List.getElem?_map, List.getElem?_range hi]
      show some (G i) = some (F i)
      rw [e i hi fun z => c z.symm]
  · rw [List.getElem?_eq_none (by simp; omega), List.getElem?_eq_none (by simp; omega)]
theorem long_ok2 {n : Nat} (h : n ≤ 10000000) : n < sizeLine := Nat.lt_of_le_of_lt h (by decide)
theorem LLs.other {Hb H : Hp} {D b : Addr} {o : HO} {rs : List Addr} {ls : List (List Int)} (h : LLs Hb D H rs ls) (nb : b ≠ D) (hb : Hb b ≠ none) : LLs Hb D (upd H b o) rs ls :=
  ⟨by rw [upd_ne nb.symm]; exact h.at_, h.len, h.nd, fun j r e => by
    obtain ⟨a, c, l, d, f⟩ := h.get j r e
    exact ⟨a, c, l, d, by rw [upd_ne (fun z : r = b => hb (by rw [← z]; exact a))]; exact f⟩⟩
section
variable {X : Cx} {K : PySem.W.Frag}
theorem kc_any (e : X.K = K) (hc : X.calm = true) : CallR X (.builtin "any") (rAny K) := by
  subst e
  exact cr_any hc
end
section
variable {X : Cx}
def rNiI : R2 := fun x y H Q => ∃ (z : Int) (a : Addr) (S : Int → Bool) (n : Nat), x = .int z ∧ y = .ref a ∧ H a = some (.set S n) ∧ Q (.bl (!S z)) H
theorem op_niI : OpR X (compareOp .NotIn) rNiI := by
  intro pins s σ H x y v u Q I rx ry h
  obtain ⟨z, a, S, n, rfl, rfl, ha, q⟩ := h
  obtain ⟨t, rfl⟩ := rx
  cases (show u = Value.ref a from ry)
  have hS : s.heap.SetOf (intKind X.prog X.w) a S n := I.hok a _ ha
  exact wpAny_notInSet_of (knd := intKind X.prog X.w) (k := z) (by simp [intKind, Value.isInt]) rfl hS ⟨.bl (!S z), H, I.tok _, rfl, q⟩
end
end Xi

namespace Xi
open PySem PySem.Spec PySem.Calls PyProof.Rows L2
/-! ## next((x for x in ws if ys[x][1] == 0), None) -/
section
variable {prog : Program} {w : World} {A' : Around} {E' : Value → Shared → Prop} {s : Shared}
theorem tst_eval {env : Env} {xs xc : Str} {p1 p2 p3 p4 p5 p6 p7 : Pos} {k4 k6 : Nat} {c a t : Addr} {items : Array Value} {i : Int} {u tl : Tok} {hb : Value} {l : Int} {m : Str → Option Value} {whole : Sem Value}
    (hk : env.scope.kind = .function) (hf : env.scope.names.lookup xs = some .free) (hl : env.scope.names.lookup xc = some .local) (hc : env.cells.lookup xs = some c) (hv : s.heap.IsCell c (some (.ref a)))
    (hn : s.heap.Ns env.locals m) (hm : m xc = some (.int i u)) (hL : s.heap.IsList a items) (h0 : 0 ≤ i) (hi : i < 2 ^ 63) (hx : items[i.toNat]? = some (.ref t)) (hT : IsTup s.heap t #[hb, .int l tl])
    (d1 : (xs == ("__debug__" : Str)) = false := by decide) (d2 : (xc == ("__debug__" : Str)) = false := by decide) (d3 : (xs == ("__classdict__" : Str)) = false := by decide) :
    wpAny (model prog w) A' (isTrue (.Compare (.Subscript (.Subscript (.Name xs p1) (.Name xc p2) p3) (.Constant (.int 1) k4 p4) p5) [.Eq] [.Constant (.int 0) k6 p6] p7) env whole) (fun ok s₃ => ok = (l == 0) ∧ Keeps s s₃) E' s := by
  refine wpAny_isTrue_Compare1 ?_
  refine Subscript_ ?_
  refine Subscript_ ?_
  refine wpAny_Name (wpAny_loadName_free hk hf hc hv ?_ d3) d1
  refine wpAny_Name (wpAny_loadName_local hk hl hn hm ?_) d2
  refine item_listR hL h0 hi hx ?_
  refine wpAny_Constant_int ?_
  refine subscriptTail_builtinR (x := .int l tl) hT.typeIs slot_tuple_getitem.lookup (getItem_tuple (j := 1) (Q := fun r s' => r = .int l tl ∧ _) hT (by decide) (by decide) (by rfl) (by rfl) ⟨rfl, ?_⟩)
  refine wpAny_Constant_int ?_
  refine eq_int ?_
  refine wpAny_truthy_bool ?_
  exact ⟨rfl, s.heap, _, rfl, fun _ _ e => e⟩
end
theorem clo_lookup (cells : List (Str × Addr)) (x : Str) : ∀ (names : List (Str × NameKind)) (acc : List (Str × Addr)), ((x, NameKind.free) ∈ names ∨ acc.lookup x = some ((cells.lookup x).getD 0)) → (cloFrom cells names acc).lookup x = some ((cells.lookup x).getD 0)
  | [], acc, h => by
    rcases h with h | h
    · cases h
    · exact h
  | (n, k) :: r, acc, h => by
    unfold cloFrom
    by_cases hk : (k == NameKind.free) = true
    · rw [if_pos hk]
      refine clo_lookup cells x r _ ?_
      by_cases hn : x = n
      · subst hn
        exact .inr (by rw [List.lookup_cons, beq_self_eq_true])
      · rcases h with h | h
        · rcases List.mem_cons.mp h with e | h
          · exact (hn (Prod.mk.inj e).1).elim
          · exact .inl h
        · refine .inr ?_
          rw [List.lookup_cons, beq_eq_false_iff_ne.mpr hn]
          exact h
    · rw [if_neg hk]
      refine clo_lookup cells x r _ ?_
      rcases h with h | h
      · rcases List.mem_cons.mp h with e | h
        · exact (hk (by rw [← (Prod.mk.inj e).2] <;> rfl)).elim
        · exact .inl h
      · exact .inr h
theorem find_passing (ws : List Int) (pb : Int → Bool) : ((passing (fun i => pb (ws.getD i 0)) ws.length 0).head?).map (fun i => ws.getD i 0) = ws.find? pb := by
  have e : ws = (List.range ws.length).map fun i => ws.getD i 0 := by
    refine List.ext_getElem? fun i => ?_
    rw [List.getElem?_map]
    by_cases h : i < ws.length
    · rw [List.getElem?_range h, List.getElem?_eq_getElem h]
      show some ws[i] = some (ws.getD i 0)
      rw [List.getD_eq_getElem?_getD, List.getElem?_eq_getElem h] <;> rfl
    · rw [show ws[i]? = none from List.getElem?_eq_none (by omega), show (List.range ws.length)[i]? = none from List.getElem?_eq_none (by rw [List.length_range]; omega)] <;> rfl
  have e2 : ws.find? pb = ((List.range ws.length).find? fun i => pb (ws.getD i 0)).map fun i => ws.getD i 0 := by
    rw [← Function.comp_def, ← List.find?_map, ← e]
  rw [e2]
  unfold passing
  rw [List.drop_zero, List.head?_filter]
/-- cells (holed, left), in tuples -/
structure Cells (H : Hp) (a : Addr) (rs : List Addr) (cs : List (Bool × Int)) : Prop where
  at_ : H a = some (.lst (rs.map V.ref))
  len : rs.length = cs.length
  get : ∀ (j : Nat) (c : Bool × Int), cs[j]? = some c → ∃ r, rs[j]? = some r ∧ H r = some (.tup [.bl c.1, .int c.2])
theorem Cells.same {H H' : Hp} {a : Addr} {rs : List Addr} {cs : List (Bool × Int)} (h : Cells H a rs cs) (s : Same H H') : Cells H' a rs cs := ⟨s _ _ h.at_, h.len, fun j c e => by
  obtain ⟨r, x, y⟩ := h.get j c e
  exact ⟨r, x, s _ _ y⟩⟩
section
variable {X : Cx} {pins : List (Addr × Obj)} {σ : L2.St} {H : Hp} {s : Shared}
/-- the generator g, ready for next -/
def ReadyF (X : Cx) (pins : List (Addr × Obj)) (σ : L2.St) (H1 : Hp) (P : Addr) (o : Option Int) (g : Addr) (s5 : Shared) : Prop :=
  ∃ (fp wr : List Addr) (G : Array GenState → Array GenState → Prop) (n : Nat) (F : Nat → Value → Prop) (St : Nat → Shared → Prop),
    WalksS X.prog X.w X.A.in1 g fp wr G n F St ∧ St 0 s5 ∧ s5.TypeIs (.ref g) "generator" ∧ (n = 0 → o = none) ∧ (∀ v, 0 < n → F 0 v → ∃ i t, o = some i ∧ v = .int i t) ∧
    ∀ s', Moved wr G s5 s' → ∃ H2, GxR.Tabbed P H1 H2 ∧ Inv X pins σ H2 s'
theorem gen_fst {c P : Addr} {iter test : Expr} {x xs : Str} {px pe gpos : Pos} {scope : Scope} {te : TE} {k j : Nat} {Q' : Value → Shared → Prop} {R : Option Int → Hp → Prop}
    {p1 p2 p3 p4 p5 p6 p7 : Pos} {k4 k6 : Nat} (htest : test = .Compare (.Subscript (.Subscript (.Name xs p1) (.Name x p2) p3) (.Constant (.int 1) k4 p4) p5) [.Eq] [.Constant (.int 0) k6 p6] p7)
    (hr : Room k X.A) (TB : GxR.TabB X.base X.mg c P) (hcode : X.env.code = .ref c) (S : GxR.GenS X.env scope x) (hfm : (xs, NameKind.free) ∈ scope.names) (hfl : scope.names.lookup xs = some .free) (hj : X.N[j]? = some xs) (hjk : X.env.scope.names.lookup xs = some .cell)
    (hi : PE X iter te) (hs : ∀ v, genFold iter X.env v = pure v) (I : Inv X pins σ H s)
    (d1 : (xs == ("__debug__" : Str)) = false) (d2 : (x == ("__debug__" : Str)) = false) (d3 : (xs == ("__classdict__" : Str)) = false)
    (h : te σ H fun v H1 => ∃ (yl a : Addr) (ws : List Int) (rs : List Addr) (cs : List (Bool × Int)), v = .ref yl ∧ SqL X.K H1 yl (ws.map V.int) ∧ σ[j]? = some (some (.ref a)) ∧ Cells H1 a rs cs ∧ (∀ z ∈ ws, 0 ≤ z ∧ z < (cs.length : Int)) ∧ cs.length ≤ 1000 ∧ GxR.TabG H1 P ∧
      R (ws.find? fun z => (cs.getD z.toNat (false, 0)).2 == 0) H1)
    (hQ : ∀ o H1 g s5, R o H1 → ReadyF X pins σ H1 P o g s5 → Q' (.ref g) s5) :
    wpAny (model X.prog X.w) X.A (eval (.GeneratorExp (.Name x pe) [⟨.Name x px, iter, [test], 0⟩] scope gpos) X.env) Q' X.xe s := by
  refine wpAny_GeneratorExp_walksQ hr.hd S.co (closure_ok S.free) S.cell S.dot S.loc S.kind (by have := hr.dp; omega) ?_ hs
  refine thn (hi.run pins s σ H _ I h) fun xv s1 ⟨v, H1, I1, r1, q1⟩ => ?_
  obtain ⟨yl, a, ws, rs, cs, rfl, hyl, hσ, hC, hws, hcl, ⟨ps, hP, ht⟩, q1⟩ := q1
  obtain rfl : xv = Value.ref yl := r1
  obtain ⟨its, rv, hl, hz⟩ := I1.list hyl
  have hIL := hl.isList
  have hlen : its.length = ws.length := by rw [← rv.length, List.length_map]
  have hat : ∀ (i : Nat) (v : Value), its.toArray[i]? = some v → ∃ (z : Int) (u : Tok), ws[i]? = some z ∧ v = .int z u := fun i v hv => by
    have hv2 : its[i]? = some v := by simpa using hv
    have hi2 : i < its.length := (List.getElem?_eq_some_iff.mp hv2).1
    obtain ⟨z, hz⟩ : ∃ z, ws[i]? = some z := ⟨ws[i]'(by omega), List.getElem?_eq_getElem _⟩
    have hb : (ws.map V.int)[i]? = some (V.int z) := by rw [List.getElem?_map, hz] <;> rfl
    obtain ⟨u, hu, ru⟩ := rv.get hb
    rw [hv2] at hu
    cases hu
    obtain ⟨t, e⟩ := (show ∃ t, v = Value.int z t from ru)
    exact ⟨z, t, hz, e⟩
  -- what is captured
  obtain ⟨cc, hcc, hcell⟩ : ∃ cc, X.env.cells.lookup xs = some cc ∧ s1.heap.IsCell cc (some (.ref a)) := by
    obtain ⟨m, hn, hlk⟩ := I1.loc
    obtain ⟨u, ru, l⟩ := hlk j xs _ hj hσ (.inr (.inl hjk))
    obtain rfl : u = Value.ref a := ru
    rcases l with ⟨hk, _⟩ | ⟨_, cc, hc, hcell⟩
    · rw [show X.env.kindOf xs = some .cell from hjk] at hk
      cases hk
    · exact ⟨cc, hc, hcell⟩
  obtain ⟨sit, srv, spl, ssz⟩ := I1.list (SqL.of (K := X.K) hC.at_)
  have hSL := spl.isList
  have hcellOf : ∀ z : Int, 0 ≤ z → z < (cs.length : Int) → ∃ (t : Addr) (hb : Value) (tl : Tok), sit.toArray[z.toNat]? = some (.ref t) ∧ IsTup s1.heap t #[hb, .int (cs.getD z.toNat (false, 0)).2 tl] := fun z z0 z1 => by
    have hz2 : z.toNat < cs.length := by omega
    obtain ⟨r, er, et⟩ := hC.get z.toNat cs[z.toNat] (List.getElem?_eq_getElem hz2)
    have hb : (rs.map V.ref)[z.toNat]? = some (V.ref r) := by rw [List.getElem?_map, er] <;> rfl
    obtain ⟨u, hu, ru⟩ := srv.get hb
    obtain rfl : u = Value.ref r := ru
    obtain ⟨tit, trv, tpl, _⟩ := I1.tuple (SqT.of (K := X.K) et)
    obtain ⟨u1, u2, rfl, ru1, ⟨tl, rfl⟩⟩ := vals2 trv
    refine ⟨r, u1, tl, by simpa using hu, ?_⟩
    rw [List.getD_eq_getElem?_getD, List.getElem?_eq_getElem hz2]
    exact tpl
  refine wpAny_pyIter_list hIL ?_
  generalize ho : ({ cls := .type "list_iterator", data := .fields #[.ref yl, .int 0 0] } : Obj) = o
  have hitr : (s1.heap.push o).IsListIter s1.heap.objs.size yl 0 := by
    subst ho
    exact ⟨_, Heap.get?_push_size _ rfl, rfl, rfl⟩
  have hylt : yl < s1.heap.objs.size := by
    obtain ⟨_, e, _⟩ := _root_.id hIL
    exact Heap.lt_size e
  have hPs : s1.heap.get? P = some { cls := .none, data := .fields ps } := I1.hok P _ hP
  have hPlt : P < s1.heap.objs.size := Heap.lt_size hPs
  have hP2 : (s1.heap.push o).get? P = some { cls := .none, data := .fields ps } := Heap.get?_push_of_some _ hPs
  have cd : PySem.W.CodeHd (s1.heap.push o) c P := TB.code.keeps fun b u e => Heap.get?_push_of_some _ (I1.bk b u e)
  have lim2 : (s1.heap.push o).NoLimit := I1.nolimit.push o
  obtain ⟨pb, hpb⟩ : ∃ pb : Int → Bool, pb = fun z => (cs.getD z.toNat (false, 0)).2 == 0 := ⟨_, rfl⟩
  have cont : ∀ (code : Value) (h3 : Heap) (tk : Nat) (ps' : Array Value), Heap.ExtBut P (s1.heap.push o) h3 → (s1.heap.push o).objs.size ≤ h3.objs.size → h3.get? P = some { cls := .none, data := .fields ps' } → (∃ more, ps' = ps ++ more) → TriplesOk ps'.toList →
      wpAny (model X.prog X.w) X.A (builtinsFor X.env.globals X.env.builtins) (fun bi s₄ =>
        ∃ Ia fp wr n₀ Pf St₀ pz F, Value.ref s1.heap.objs.size = .ref Ia ∧ (∀ A' : Around, A'.handled = none → Walks X.prog X.w A' Ia fp wr n₀ Pf St₀) ∧ St₀ 0 s₄.heap ∧ (∀ b ∈ fp, b < s₄.heap.objs.size) ∧ s₄.heap.NoLimit ∧ cStatics ∉ wr ∧
          (∀ href : Heap, (∀ b o, s₄.heap.get? b = some o → href.get? b = some o) →
            QuietGen X.prog X.w (genEnv scope (cloFrom X.env.cells scope.names []) s₄.heap.objs.size code bi X.env) x [test] (.Name x pe) (List.range s₄.heap.objs.size) wr Pf pz F href) ∧
          (∀ a h₅ tk gs, gs.bare = true → s₄.heap.objs.size < a → h₅.objs.size = a + 1 → (∀ b o, s₄.heap.get? b = some o → h₅.get? b = some o) →
            WalksS X.prog X.w X.A.in4 a (a :: s₄.heap.objs.size :: List.range s₄.heap.objs.size) (s₄.heap.objs.size :: wr) (GenOnlyQ s₄.gens.size) (passing pz n₀ 0).length
              (fun j y => ∃ i, (passing pz n₀ 0)[j]? = some i ∧ F i y) (GenAt X.prog X.w X.A.in4 a s₄.gens.size s₄.heap.objs.size (List.range s₄.heap.objs.size) wr pz n₀ F) →
            GenAt X.prog X.w X.A.in4 a s₄.gens.size s₄.heap.objs.size (List.range s₄.heap.objs.size) wr pz n₀ F 0 { s₄ with gens := s₄.gens.push gs, toks := tk, heap := h₅ } →
            Q' (.ref a) { s₄ with gens := s₄.gens.push gs, toks := tk, heap := h₅ })) X.xe { s1 with heap := h3, toks := tk } := by
    intro code h3 tk ps' hx hsz hP3 hmore ht3
    obtain ⟨bm, ob, e1, e2, e3, e4, e5, e6, e7, e8⟩ := TB.bm
    have hcP : cStatics ≠ P := fun e => by
      obtain ⟨_, hns, _⟩ := I1.nolimit
      obtain ⟨o', es, ep, ho, hd, _⟩ := hns
      rw [e, hPs] at ho
      cases ho
      cases hd
    have hcl : cStatics < s1.heap.objs.size := let ⟨_, hns, _⟩ := I1.nolimit; hns.lt
    have sz2 : (s1.heap.push o).objs.size = s1.heap.objs.size + 1 := Heap.size_push ..
    have keep3 : ∀ b u, b ≠ P → s1.heap.get? b = some u → h3.get? b = some u := fun b u hb e => hx b u hb (Heap.get?_push_of_some _ e)
    refine wpAny_builtinsFor (m := X.mg) (by rw [I1.ok.glob]; exact ((I1.mod.glob.keeps I1.bk).push o).extBut hx TB.gP) e1 e2 (keep3 _ _ e4 (I1.bk _ _ e5)) e6 e7 e8 ?_
    have notP : ∀ {b : Addr} {ob : Obj}, s1.heap.get? b = some ob → (∀ ps, ob.data ≠ .fields ps) → b ≠ P := fun e hd z => by
      rw [z, hPs] at e
      cases e
      exact hd _ rfl
    have hylP : yl ≠ P := by
      obtain ⟨_, e, hc1, _, hd1⟩ := _root_.id hIL
      exact notP e fun ps z => by
        rw [hd1] at z
        cases z
    have hIL3 : h3.IsList yl its.toArray := by
      obtain ⟨ob, e, r⟩ := _root_.id hIL
      exact ⟨ob, keep3 _ _ hylP e, r⟩
    have hItr3 : h3.IsListIter s1.heap.objs.size yl 0 := hitr.at fun u e => hx _ u (Nat.ne_of_gt hPlt) e
    refine ⟨s1.heap.objs.size, [s1.heap.objs.size, yl], [s1.heap.objs.size], its.toArray.size, (fun i v => its.toArray[i]? = some v), (fun i h => h.IsListIter s1.heap.objs.size yl i ∧ h.IsList yl its.toArray), (fun i => pb (ws.getD i 0)),
      (fun i y => ∃ t, y = .int (ws.getD i 0) t), rfl, (fun A' hA => Walks.list hA _ _ (Nat.ne_of_lt hylt) _), ⟨hItr3, hIL3⟩, ?_, lim2.extBut hx hcP, ?_, ?_, ?_⟩
    · intro b hb
      rcases List.mem_cons.mp hb with z | z
      · rw [z]
        show s1.heap.objs.size < h3.objs.size
        omega
      · rcases List.mem_cons.mp z with z | z
        · rw [z]
          have e9 : s1.heap.objs.size ≤ h3.objs.size := by omega
          exact Nat.lt_of_lt_of_le hylt e9
        · cases z
    · intro z
      rcases List.mem_cons.mp z with z | z
      · exact Nat.ne_of_lt hcl z
      · cases z
    · intro href hhref
      -- what stood ahead stands in the generator's own turns
      have old : ∀ {s₂ : Shared} {b : Addr} {ob : Obj}, (∀ b ∈ List.range h3.objs.size, b ∉ [s1.heap.objs.size] → ∀ o, href.get? b = some o → s₂.heap.get? b = some o) → s1.heap.get? b = some ob → b ≠ P → s₂.heap.get? b = some ob := fun hk e hb => by
        have hlt := Heap.lt_size e
        refine hk _ (List.mem_range.mpr ?_) (fun hm => ?_) _ (hhref _ _ (keep3 _ _ hb e))
        · have h9 : (_ : Nat) < s1.heap.objs.size := hlt
          have e9 : s1.heap.objs.size ≤ h3.objs.size := by omega
          exact Nat.lt_of_lt_of_le h9 e9
        · simp only [List.mem_singleton] at hm
          rw [hm] at hlt
          exact Nat.lt_irrefl _ hlt
      refine ⟨fun A' E' i v s₂ m₂ hA hPv hn hm hk => ?_, fun A' E' i v s₂ m₂ hA hPv hp hn hm hk => ?_⟩
      · obtain ⟨z, u, hz3, rfl⟩ := hat i v hPv
        obtain ⟨z0, z1⟩ := hws z (List.mem_of_getElem? hz3)
        obtain ⟨t, hb, tl, x1, x2⟩ := hcellOf z z0 z1
        have hcell2 : s₂.heap.IsCell cc (some (.ref a)) := by
          obtain ⟨ob, e, dd⟩ := hcell
          exact ⟨ob, old hk e (notP e fun ps z => by rw [dd] at z; cases z), dd⟩
        have hSL2 : s₂.heap.IsList a sit.toArray := by
          obtain ⟨ob, e, c1, c2, dd⟩ := _root_.id hSL
          exact ⟨ob, old hk e (notP e fun ps z => by rw [dd] at z; cases z), c1, c2, dd⟩
        have hT2 : IsTup s₂.heap t #[hb, .int (cs.getD z.toNat (false, 0)).2 tl] := by
          obtain ⟨ob, e, c1, c2, dd⟩ := _root_.id x2
          exact ⟨ob, old hk e (notP e fun ps z => by rw [dd] at z; cases z), c1, c2, dd⟩
        refine wpAny_tests_one ?_
        rw [htest]
        refine wpAny_mono (tst_eval (env := genEnv scope (cloFrom X.env.cells scope.names []) h3.objs.size code builtinsNs X.env) (c := cc) S.kind hfl S.loc (by
          show (cloFrom X.env.cells scope.names []).lookup xs = some cc
          rw [clo_lookup _ _ _ _ (.inl hfm), hcc] <;> rfl) hcell2 hn hm hSL2 z0 (by omega) x1 hT2 d1 d2 d3) (fun ok s3 q => ?_) fun _ _ e => e
        refine ⟨?_, q.2⟩
        have ez : ws.getD i 0 = z := by rw [List.getD_eq_getElem?_getD, hz3] <;> rfl
        show ok = pb (ws.getD i 0)
        rw [q.1, hpb, ez]
      · obtain ⟨z, u, hz3, rfl⟩ := hat i v hPv
        refine wpAny_Name (wpAny_loadName_local S.kind S.loc hn hm ?_) d2
        exact ⟨⟨u, by rw [List.getD_eq_getElem?_getD, hz3] <;> rfl⟩, GxR.keeps_refl _⟩
    · intro g h5 tk5 gs hgb hag hsz5 hk5 W5 hgat
      have hn5 : its.toArray.size = ws.length := by rw [List.size_toArray, hlen]
      rw [hn5] at W5 hgat
      have ef := find_passing ws pb
      rw [hpb] at ef
      refine hQ _ H1 g _ q1 ⟨_, _, _, _, _, _, W5.in4_1, hgat, ?_, ?_, ?_, fun s' hm => ?_⟩
      · obtain ⟨hg9, _⟩ := hgat
        exact hg9.typeIs
      · intro hn0
        rw [← ef, ← hpb, List.length_eq_zero_iff.mp hn0] <;> rfl
      · intro v hn0 hv
        obtain ⟨i, hij, t, e⟩ := hv
        refine ⟨_, t, ?_, e⟩
        rw [← ef, ← hpb, List.head?_eq_getElem?, hij] <;> rfl
      · obtain ⟨more, em⟩ := hmore
        have nwr : ∀ b u, s1.heap.get? b = some u → b ∉ h3.objs.size :: [s1.heap.objs.size] := fun b u e hb => by
          have hl := Heap.lt_size e
          rcases List.mem_cons.mp hb with z | z
          · rw [z] at hl
            have h9 : (h3.objs.size : Nat) < s1.heap.objs.size := hl
            omega
          · rcases List.mem_cons.mp z with z | z
            · rw [z] at hl
              exact Nat.lt_irrefl _ hl
            · cases z
        have J := GxR.inv_tab (more := more) (h' := s'.heap) (g' := s'.gens) (d' := s'.drawn) (t' := s'.toks) I1 hP (fun b u hb e => hm.heap b u (nwr b u e) (hk5 b u (keep3 b u hb e)))
          (by rw [← em]; exact hm.heap P _ (nwr P _ hPs) (hk5 P _ hP3)) (AllBare.movedS (I1.bare.push hgb) hm)
        rw [GxR.sh_eta s1 s' hm.os] at J
        refine ⟨upd H1 P (.tbl (ps ++ more)), ⟨⟨ps ++ more, upd_same, by rw [← em]; exact ht3⟩, fun b hb => upd_ne hb⟩, J⟩
  refine ⟨lim2, ?_⟩
  cases hf : codeAmong gpos ps.toList with
  | none =>
    refine wpAny_genexprCodeX hcode (cd.code hP2 ht) (cd.tab hP2) hf fun c' h' tk hx hge hlt hco' _ htab' _ => ?_
    obtain ⟨o1, vs, f1, tf, fl, tg, inF, tx, tt, op, _, _, _, _, _, _, _, _, _, htr, _⟩ := hco'
    exact cont _ h' tk _ hx (Nat.le_trans hge (Nat.le_of_lt hlt)) htab'.2 ⟨_, rfl⟩ htr
  | some cv =>
    refine wpAny_genexprCode_hit hcode (cd.code hP2 ht) hf ?_
    exact cont cv (s1.heap.push o) s1.toks ps (Heap.ExtBut.refl _ _) (Nat.le_refl _) hP2 ⟨#[], by simp⟩ ht
end
/-- a number, or None -/
def oV : Option Int → V
  | some i => .int i
  | none => .non
/-- next((x for x in te if ys[x][1] == 0), None); behind it the def's table may have grown -/
def tNextG (K : PySem.W.Frag) (P : Addr) (j : Nat) (te : TE) : TE := fun σ H Q => te σ H fun v H1 => ∃ (yl a : Addr) (ws : List Int) (rs : List Addr) (cs : List (Bool × Int)), v = .ref yl ∧ SqL K H1 yl (ws.map V.int) ∧ σ[j]? = some (some (.ref a)) ∧ Cells H1 a rs cs ∧ (∀ z ∈ ws, 0 ≤ z ∧ z < (cs.length : Int)) ∧ cs.length ≤ 1000 ∧ GxR.TabG H1 P ∧
  ∀ H2, GxR.Tabbed P H1 H2 → Q (oV (ws.find? fun z => (cs.getD z.toNat (false, 0)).2 == 0)) H2
section
variable {X : Cx}
theorem pe_nextG {c P : Addr} {iter test : Expr} {x xs : Str} {px pe gpos p pos pn : Pos} {scope : Scope} {te : TE} {k j kn : Nat}
    {p1 p2 p3 p4 p5 p6 p7 : Pos} {k4 k6 : Nat} (htest : test = .Compare (.Subscript (.Subscript (.Name xs p1) (.Name x p2) p3) (.Constant (.int 1) k4 p4) p5) [.Eq] [.Constant (.int 0) k6 p6] p7)
    (hr : Room k X.A) (hg : Gl X "next") (hm : X.mg "next" = none) (TB : GxR.TabB X.base X.mg c P) (hcode : X.env.code = .ref c) (S : GxR.GenS X.env scope x) (hfm : (xs, NameKind.free) ∈ scope.names) (hfl : scope.names.lookup xs = some .free) (hj : X.N[j]? = some xs) (hjk : X.env.scope.names.lookup xs = some .cell)
    (hi : PE X iter te) (hs : ∀ v, genFold iter X.env v = pure v) (d1 : (xs == ("__debug__" : Str)) = false) (d2 : (x == ("__debug__" : Str)) = false) (d3 : (xs == ("__classdict__" : Str)) = false)
    (he : starEach [.GeneratorExp (.Name x pe) [⟨.Name x px, iter, [test], 0⟩] scope gpos, .Constant .none kn pn] X.env = (false, eval (.GeneratorExp (.Name x pe) [⟨.Name x px, iter, [test], 0⟩] scope gpos) X.env) :: starEach [.Constant .none kn pn] X.env := by rfl) :
    PE X (.Call (.Name "next" p) [.GeneratorExp (.Name x pe) [⟨.Name x px, iter, [test], 0⟩] scope gpos, .Constant .none kn pn] [] pos) (tNextG X.K P j te) := by
  refine ⟨fun pins s σ H Q I h => ?_⟩
  refine wpAny_Call_Name_kw (ld_blt (u := .builtin "next") I hg hm (by first | rfl | decide +kernel) ?_ (by decide) (by decide))
  refine PyProof.Rows.callWith_builtin1 ?_ he (by rfl)
  rw [he]
  show wpAny _ _ (spliced ((false, eval (.GeneratorExp (.Name x pe) [⟨.Name x px, iter, [test], 0⟩] scope gpos) X.env) :: backTo pos (starEach [.Constant .none kn pn] X.env))) _ _ s
  refine Calls.spliced_cons (gen_fst (R := fun o H1 => ∀ H2, GxR.Tabbed P H1 H2 → Q (oV o) H2) htest hr TB hcode S hfm hfl hj hjk hi hs I d1 d2 d3 ?_ fun o H1 g s5 hR hG => ?_)
  · exact h
  show wpAny _ _ (spliced ((false, eval (.Constant .none kn pn) X.env) :: [])) _ _ s5
  refine Calls.spliced_cons (Constant_none (Calls.spliced_nil ?_))
  obtain ⟨fp, wr, G, n, F, St, W, hst, hT, h0, h1, hI⟩ := hG
  refine Calls.call_function_entry (by decide +kernel) (by decide +kernel) PySem.W.kdk_entry_next (PySem.W.kdk_args_next2 _ _) ?_
  unfold Builtin.«next»
  refine wpAny_bind (m := someArgs "next" 1 2 _) (wpAny_of_eq (a := [Value.ref g, Value.none]) (by first | rfl | kernel_rfl!) ?_)
  dsimp only
  refine wpAny_bind (wpAny_specialOf (name := Str.ofString "__next__") hT slot_gen_next.lookup ?_)
  refine wpAny_ite_split (fun hab => absurd hab (by decide)) (fun _ => ?_)
  have fin : ∀ (u : Value) (v : V) (s' : Shared), Moved wr G s5 s' → RelV v u → oV o = v → EP X pins σ Q u s' := fun u v s' hmv r e => by
    obtain ⟨H2, hT2, J⟩ := hI s' hmv
    refine ⟨v, H2, J, r, ?_⟩
    rw [← e]
    exact hR H2 hT2
  rcases Nat.eq_zero_or_pos n with hn | hn
  · subst hn
    have e := h0 rfl
    subst e
    refine wpAny_bind (W.done _ _ _ hst fun s' hmv => ?_)
    exact wpAny_pure ⟨_, rfl, fin .none .non s' hmv rfl rfl⟩
  · refine wpAny_bind (W.item 0 _ _ _ hn hst fun v s' hF _ hmv => ?_)
    obtain ⟨i, t, rfl, rfl⟩ := h1 v hn hF
    exact wpAny_pure ⟨_, rfl, fin (.int i t) (.int i) s' hmv ⟨t, rfl⟩ rfl⟩
end
/-! ## a def's table of code objects, looked after -/
def TabO (P : Addr) : HO := .ext fun h => ∃ ps : Array Value, h.get? P = some { cls := .none, data := .fields ps } ∧ TriplesOk ps.toList
section
variable {Pr : Program} {w : World} {K : PySem.W.Frag} {mg : Str → Option Value} {base : Heap} {CX : CXT} {k : Nat} {f P : Addr} {fd : FuncData} {ps : List Str} {sp spX : Sp} {H H1 H2 : Hp} {h h' : Heap}
theorem tab_obj (e : h.get? P = some { cls := .none, data := .fields ts }) (t : TriplesOk (ts : Array Value).toList) : ObjOk Pr w H h P (TabO P) :=
  ⟨⟨ts, e, t⟩, ⟨_, e⟩, fun _ _ ⟨u, x, y⟩ st => ⟨u, st _ x, y⟩⟩
theorem tab_close {ts : Array Value} (ok : HOk Pr w H2 h) (e : H2 P = some (.tbl ts)) (t : TriplesOk ts.toList) : HOk Pr w (upd H2 P (TabO P)) h := by
  have eH : upd H2 P (.tbl ts) = H2 := by
    funext c
    unfold upd
    split
    · rename_i q
      rw [q, e]
    · rfl
  rw [← eH] at ok
  have e2 := ok P _ upd_same
  exact seen_other ok (fun _ q => by cases q) (fun _ q => by cases q) (tab_obj e2 t)
theorem tab_open (ok : HOk Pr w H h) (hp : H P = some (TabO P)) : ∃ ts : Array Value, TriplesOk ts.toList ∧ HOk Pr w (upd H P (.tbl ts)) h := by
  obtain ⟨⟨ts, e, t⟩, _⟩ := ok P _ hp
  have eH : upd H P (TabO P) = H := by
    funext c
    unfold upd
    split
    · rename_i q
      rw [q, hp]
    · rfl
  rw [← eH] at ok
  have z := seen_other (o' := .tbl ts) ok (fun _ q => by cases q) (fun _ q => by cases q) e
  exact ⟨ts, t, z⟩
/-- what a def that may let its table grow is worth to those who look after the table alone -/
def QT (P : Addr) (Q : VK) : VK := fun v H' => ∃ ts : Array Value, H' P = some (.tbl ts) ∧ TriplesOk ts.toList ∧ Q v (upd H' P (TabO P))
theorem un_tab {fs ex : List Addr} {ts ts' : Array Value} (hP : H P = some (TabO P)) (u : Un fs ex (upd H P (.tbl ts)) H2 h h') (e2 : H2 P = some (.tbl ts')) : Un fs ex H (upd H2 P (TabO P)) h h' := by
  have ne : ∀ b, H b = none → b ≠ P := fun b e z => by
    rw [z, hP] at e
    cases e
  have nt : ∀ b (o : HO), H b = some o → o ≠ TabO P → b ≠ P := fun b o e q z => by
    rw [z, hP] at e
    exact q (Option.some.inj e).symm
  have up : ∀ b, b ≠ P → upd H P (.tbl ts) b = H b := fun b h => upd_ne h
  refine ⟨fun b o e n => u.keep b o e (by rw [up b (ne b n)]; exact n), fun b o e n => u.slot b o e (by rw [up b (ne b n)]; exact n), fun b o e n q => ?_, u.there, fun b xs e => ?_, fun b o xs e => ?_, fun b us e => ?_⟩
  · rw [upd_ne (ne b n)]
    exact u.free b o e (by rw [up b (ne b n)]; exact n) q
  · have hb := nt b _ e (fun q => by cases q)
    rw [upd_ne hb]
    exact u.tups b xs (by rw [up b hb]; exact e)
  · have hb := nt b _ e (fun q => by cases q)
    rw [upd_ne hb]
    exact u.frzs b o xs (by rw [up b hb]; exact e)
  · have hb := nt b _ e (fun q => by cases q)
    obtain ⟨more, q⟩ := u.tbls b us (by rw [up b hb]; exact e)
    exact ⟨more, by rw [upd_ne hb]; exact q⟩
theorem Dok.tabbed (F : Dok Pr w K mg base CX0 k f fd ps sp) (len : ∀ vs H Q E, spX vs H Q E → vs.length = ps.length)
    (hs : ∀ vs H Q E, spX vs H Q E → H P = some (TabO P) ∧ ∀ ts : Array Value, TriplesOk ts.toList → sp vs (upd H P (.tbl ts)) (QT P Q) E) : Dok Pr w K mg base CX0 k f fd ps spX := by
  refine ⟨len, ?_⟩
  intro A outer s H args us vs Q E hr e0 hb r e
  obtain ⟨hp, hs⟩ := hs _ _ _ _ e
  obtain ⟨ts, tt, ok⟩ := tab_open e0.hok hp
  have nn : ∀ b, H b = none → upd H P (.tbl ts) b = none := fun b q => by
    rw [upd_ne (fun z => by rw [z, hp] at q; cases q)]
    exact q
  have e1 : Env0 Pr w K mg base A outer s (upd H P (.tbl ts)) :=
    ⟨e0.frames, e0.mod, fun b o e => ⟨(e0.bs b o e).1, nn b (e0.bs b o e).2⟩, e0.bsz, e0.funs, fun b q => nn b (e0.frf b q), ok, e0.bare⟩
  refine codeAny_mono (F.run A outer s _ args us vs _ E hr e1 hb r (hs ts tt)) ?_
  intro r s' hq
  cases r with
  | error e => exact hq
  | ok fl =>
    cases fl with
    | ret u =>
      obtain ⟨x, H2, os, bare, un, ok2, rv, ts', q1, q2, q3⟩ := hq
      exact ⟨x, _, os, bare, un_tab hp un q1, tab_close ok2 q1 q2, rv, q3⟩
    | next => exact hq
    | brk => exact hq
    | cont => exact hq
/-- a def whose code object is known -/
theorem Dok.bodyC {x : Str} {st : Stmt} {N : List Str} {c : Addr} (hcode : fd.code = .ref c) (F : Fun K x x st f fd) (S : FnScope N ps (defScope st)) (len : ∀ vs H Q E, sp vs H Q E → vs.length = ps.length)
    (hb : ∀ (A : Around) (outer : List Env) (s : Shared) (H : Hp) (vs : List V) (Q : VK) (E : XK), Rm k (A.deeper (envOfC x (defScope st) s.heap.objs.size f (.ref c))) → sp vs H Q E →
      ∃ t, PSs (cxOf CX0 Pr w K mg base N x (defScope st) f (.ref c) A outer s H E).nox (defBody st) t ∧ t { nx := fun _ H' => Q .non H', rt := Q } (start N vs) H) : Dok Pr w K mg base CX0 (k + 1) f fd ps sp := by
  obtain ⟨oc, od, kV, doc, pm, an, cdv, ct, osl, rfl, lk, hcd⟩ := F.ex
  have hc : cdv = .ref c := hcode
  subst hc
  constructor
  · exact len
  intro A outer s H args us vs Q E hr e0 hbd r hsp
  have hl := len _ _ _ _ hsp
  have KX : K.In s.heap := e0.mod.kin.keeps fun b o e => (e0.bs b o e).1
  have lim := e0.mod.nolimit.keeps (h' := s.heap) fun b o e => (e0.bs b o e).1
  have hkind : ∀ y ∈ ps.zip us, (defScope st).names.lookup y.1 = some .local ∨ ((defScope st).names.lookup y.1 = some .cell ∧ ((cellsFrom (s.heap.objs.size + 1) (defScope st).names []).lookup y.1).isSome = true) := by
    rintro ⟨n, v⟩ hy
    have q := S.par n (List.of_mem_zip hy).1
    cases q with
    | inl q => exact Or.inl q
    | inr q => exact Or.inr ⟨q, PySem.W.cellsFrom_some _ _ _ (Or.inl q)⟩
  refine codeAny_call_function hr.r.depth (KX _ _ lk) rfl S.co S.gen rfl (PySem.W.codeRec_of KX hcd) (hbd _ _ _ _ ?_)
  refine wpAny_newFunctionEnv_cells S.kind hkind ?_
  intro env he s1 x
  subst he
  refine ⟨lim.keeps x.toInCall.keep, ?_⟩
  refine codeAny_func ?_
  obtain ⟨t, ht, hq⟩ := hb A outer s H vs Q E ⟨hr.g, hr.r.deeper _⟩ hsp
  have I := inv_start (CX := CX0) (P := Pr) (w := w) (K := K) (mg := mg) (base := base) (f := f) (E := E) S hr.r.hd e0 hl r x
  refine wpAny_mono (ht.nox.run [] s1 (start N vs) H _ I hq) ?_ fun e s' hs => hs
  intro fl s' hs
  cases fl with
  | ret u =>
    obtain ⟨v, σ', H', J, rv, q⟩ := hs
    exact ⟨v, H', J.os, J.bare, J.base, J.hok, rv, q⟩
  | next =>
    obtain ⟨σ', H', J, q⟩ := hs
    exact ⟨V.non, H', J.os, J.bare, J.base, J.hok, rfl, q⟩
  | brk =>
    obtain ⟨_, _, _, q⟩ := hs
    exact q.elim
  | cont =>
    obtain ⟨_, _, _, q⟩ := hs
    exact q.elim
end
/-! ## the end, with one table -/
section
variable {P : Program} {w : World} {K : PySem.W.Frag} {mg mb : Str → Option Value} {k : Nat} {fa a c T : Addr} {fd : FuncData} {x : Str} {sp : Sp} {s : Shared} {us : List Value} {ns : List Int}
theorem at_topT (KX : K.In s.heap) (n1 : s.heap.Ns mainGlobals mg) (n2 : s.heap.Ns builtinsNs mb) (n3 : ∀ y : Str, y ≠ "__name__" → mb y = bootBuiltins y) (lim : s.heap.NoLimit) (hg : s.gens = #[]) (hr : Rm k callerA)
    (C : PySem.W.CodeHd s.heap c T) (hT : s.heap.get? T = some { cls := .none, data := .fields #[] }) (nT : K.lookup T = none)
    (hbm : ∃ (bm : Addr) (ob : Obj), mg "__builtins__" = some (.ref bm) ∧ bm ≠ builtinsNs ∧ s.heap.get? bm = some ob ∧ ob.cls = .type "module" ∧ ob.dict = some builtinsNs ∧ ob.data = .plain)
    (F : ∀ base : Heap, K.In base → base.Ns mainGlobals mg → GxR.TabB base mg c T → Dok P w K mg base CX0 k fa fd [x] sp) (hb : ∀ (s : Shared) (u : Value), BindsTo s fd ⟨[u], []⟩ [(x, u)])
    {H : Hp} (ok : HOk P w H s.heap) (one : ∀ b u, H b = some u → (b = a ∧ K.lookup a = none ∧ u = .frz { cls := .type "list", data := .seq us.toArray } (.lst (ns.map V.int))) ∨ b = T) (tabH : H T = some (TabO T))
    (ha : s.heap.get? a = some { cls := .type "list", data := .seq us.toArray }) (h : sp [.ref a] H (fun v H' => v = .bl true ∧ H' T = some (TabO T)) fun _ _ _ => False) :
    codeAny (model P w) callerA (.call (.ref fa) ⟨[.ref a], []⟩) (fun r s' => r = .ok (.ret (.bool true)) ∧ OldK s.heap s'.heap ∧ s'.os = s.os ∧ AllBare s'.gens) s := by
  have free : ∀ {b : Addr} {o : Obj}, s.heap.get? b = some o → (b ≠ a ∨ K.lookup a ≠ none) → b ≠ T → H b = none := by
    intro b o e d dT
    cases q : H b with
    | none => rfl
    | some u =>
      rcases one b u q with ⟨e1, e2, _⟩ | e1
      · cases d with
        | inl d => exact (d e1).elim
        | inr d => exact (d e2).elim
      · exact (dT e1).elim
  have low : ∀ {b : Addr} {o : Obj}, s.heap.get? b = some o → H b = none → (hidT s.heap H).get? b = some o := fun e n => hidT_get e n
  have notA : ∀ {b : Addr} {o : Obj}, s.heap.get? b = some o → (∀ vs n, o.data ≠ .seq vs n) → b ≠ a := fun e q z => by
    rw [z, ha] at e
    cases e
    exact q _ _ rfl
  have notT : ∀ {b : Addr} {o : Obj}, s.heap.get? b = some o → o.data ≠ .fields #[] → b ≠ T := fun e q z => by
    rw [z, hT] at e
    cases e
    exact q rfl
  have ns_ : ∀ {b : Addr} {m : Str → Option Value}, s.heap.Ns b m → (hidT s.heap H).Ns b m := by
    rintro b m ⟨o, es, ep, e, d, r⟩
    refine ⟨o, es, ep, low e (free e (.inl (notA e fun vs n z => ?_)) (notT e fun z => ?_)), d, r⟩
    · rw [d] at z
      cases z
    · rw [d] at z
      cases z
  have kin : K.In (hidT s.heap H) := by
    intro b o e
    refine low (KX b o e) (free (KX b o e) ?_ fun z => ?_)
    · by_cases eb : b = a
      · subst eb
        refine .inr fun z => ?_
        rw [z] at e
        cases e
      · exact .inl eb
    · rw [z, nT] at e
      cases e
  have M : Mod K mg (hidT s.heap H) := by
    obtain ⟨mc, h1, h2⟩ := lim
    exact ⟨kin, ns_ n1, ⟨mb, ns_ n2, n3⟩, ⟨mc, ns_ h1, h2⟩⟩
  have TB : GxR.TabB (hidT s.heap H) mg c T := by
    refine ⟨?_, ?_, fun z => ?_⟩
    · obtain ⟨o, vs, file, tf, flags, tg, inF, text, tt, e1, r1, r2, r3, r4, r5, r6, r7, r8, hne⟩ := C
      refine ⟨o, vs, file, tf, flags, tg, inF, text, tt, low e1 (free e1 (.inl (notA e1 fun vs n z => ?_)) (notT e1 fun z => ?_)), r1, r2, r3, r4, r5, r6, r7, r8, hne⟩
      · rw [r2] at z
        cases z
      · rw [r2] at z
        cases z
        simp at r3
    · obtain ⟨bm, ob, b1, b2, b3, b4, b5, b6⟩ := hbm
      have nG : bm ≠ mainGlobals := fun q => by
        obtain ⟨o, es, ep, e, hd, _⟩ := n1
        rw [q, e] at b3
        cases b3
        rw [hd] at b6
        cases b6
      have nP : bm ≠ T := notT b3 fun z => by
        rw [b6] at z
        cases z
      refine ⟨bm, ob, b1, b2, nG, nP, low b3 (free b3 (.inl (notA b3 fun vs n z => ?_)) nP), b4, b5, b6⟩
      rw [b6] at z
      cases z
    · obtain ⟨o, es, ep, e, hd, _⟩ := n1
      rw [z, hT] at e
      cases e
      cases hd
  have e0 : Env0 P w K mg (hidT s.heap H) callerA [] s H := by
    refine ⟨rfl, M, fun b o e => of_hidT e, Nat.le_of_eq (hidT_size _ _), True.intro, ?_, ok, .of_eq hg⟩
    intro b hb
    cases (show b ∈ ([] : List Addr) from hb)
  refine codeAny_mono ((F _ kin (ns_ n1) TB).run callerA [] s H ⟨[.ref a], []⟩ [.ref a] [.ref a] _ _ hr e0 (hb s (.ref a)) (.cons rfl .nil) h) ?_
  intro r s' hq
  cases r with
  | error e => exact hq.elim
  | ok fl =>
    cases fl with
    | next => exact hq.elim
    | brk => exact hq.elim
    | cont => exact hq.elim
    | ret u =>
      obtain ⟨v, H', os, bare, un, ok', r', q⟩ := hq
      obtain ⟨q, qT⟩ := q
      cases (show v = .bl true from q)
      cases (show u = Value.bool true from r')
      have key : ∀ b o, b ≠ T → s.heap.get? b = some o → s'.heap.get? b = some o := by
        intro b o dT e
        cases q2 : H b with
        | none =>
          refine un.keep b o e q2 ?_ ?_ <;> (intro z; cases (show b ∈ ([] : List Addr) from z))
        | some u2 =>
          rcases one b u2 q2 with ⟨rfl, _, rfl⟩ | e1
          · obtain ⟨e2, _⟩ := ok' b _ (un.frzs b _ _ q2)
            rw [ha] at e
            cases e
            exact e2
          · exact (dT e1).elim
      have grown : ∃ more : Array Value, s'.heap.get? T = some { cls := .none, data := .fields more } := by
        obtain ⟨⟨ts, e, _⟩, _⟩ := ok' T _ qT
        exact ⟨ts, e⟩
      refine ⟨rfl, ⟨fun b o e => ?_, fun b o e => ?_⟩, os, bare⟩
      · by_cases hbT : b = T
        · obtain ⟨more, hm⟩ := grown
          subst hbT
          rw [hT] at e
          cases e
          exact .inr (.inl ⟨(C.tab hT).isCodeTable, rfl, #[], more, rfl, by rw [Array.empty_append]; exact hm⟩)
        · exact .inl (key b o hbT e)
      · by_cases hbT : b = T
        · obtain ⟨more, hm⟩ := grown
          exact ⟨_, by rw [hbT]; exact hm⟩
        · exact ⟨o, key b o hbT e⟩
/-- the heap in which the script and the table alone are tracked -/
def HScrT (a T : Addr) (us : List Value) (ns : List Int) : Hp := fun b => if b = T then some (TabO T) else if b = a then some (.frz { cls := .type "list", data := .seq us.toArray } (.lst (ns.map V.int))) else none
def HTab (T : Addr) : Hp := fun b => if b = T then some (TabO T) else none
theorem walkT {l : PySem.W.OpenLaw} {n k : Nat} {q : Program} {loose : List Str} {XP : (Str → Option Value) → Heap → Prop} {YP : World → Heap → Prop} {d : DefRec} {K : Params → PySem.W.Frag} {sp : World → Addr → Sp} {x dn : Str}
    (hn : l.most = some n) (hn2 : n ≤ sizeLine) (hdf : d.params.defaults = []) (hr : Rm k callerA) (hY : ∀ (w : World) (h : Heap), YP w h → (K w.params).In h) (hrec : ((recsOf q).any fun e => e.name == dn) = true)
    (F : ∀ (w : World) (mg : Str → Option Value) (fa c T : Addr) (h : Heap), (K w.params).In h → h.Ns mainGlobals mg → mg d.name = some (.ref fa) →
      (∀ (f : Addr) (o : Obj) (fd : FuncData), mg dn = some (.ref f) → (K w.params).lookup f = some o → o.data = .func fd → fd.code = .ref c) →
      PySem.W.noTabs (K w.params) = true ∧ ∃ fd : FuncData, (∀ (s : Shared) (u : Value), BindsTo s fd ⟨[u], []⟩ [(x, u)]) ∧ ∀ base : Heap, (K w.params).In base → base.Ns mainGlobals mg → GxR.TabB base mg c T → Dok l.prog w (K w.params) mg base CX0 k fa fd [x] (sp w T))
    (hsp : ∀ (w : World) (H : Hp) (a T : Addr) (ns : List Int), ns.length ≤ n → H T = some (TabO T) → SqL (K w.params) H a (ns.map V.int) → sp w T [.ref a] H (fun v H' => v = .bl true ∧ H' T = some (TabO T)) fun _ _ _ => False) :
    PySem.W.WalkO q loose XP YP l.row.toRowW d [] (fun f vs => PySem.call f vs) := by
  refine Att.attach_call hn hdf ?_
  intro w s₀ s₁ mg mb fa o pm cd doc a vs ns G Y ho hd hcd hmg hobj hints hlen hg
  have KX := hY w _ Y
  obtain ⟨dL, hm, hn1⟩ := List.any_eq_true.mp hrec
  have hn3 : dL.name = dn := beq_iff_eq.mp hn1
  obtain ⟨a', o', fd', c, T, h1, h2, h3, h4, h5, h6⟩ := G.T.tab dL hm
  have C : PySem.W.CodeHd s₁.heap c T := PySem.W.CodeHd.of h5 h6
  have hT : s₁.heap.get? T = some { cls := .none, data := .fields #[] } := h6.2
  obtain ⟨hK, fd, hb, hF⟩ := F w mg fa c T _ KX G.T.g hmg (fun f o fd e1 e2 e3 => by
    rw [← hn3, h1] at e1
    cases e1
    have g := KX _ _ e2
    rw [g] at h2
    cases h2
    rw [e3] at h3
    cases h3
    exact h4)
  have nT : (K w.params).lookup T = none := by
    cases e : (K w.params).lookup T with
    | none => rfl
    | some u =>
      have g := KX T u e
      rw [hT] at g
      cases g
      exact absurd (show false = true from List.all_eq_true.mp hK (T, _) (PySem.W.mem_of_lookupK e)) Bool.false_ne_true
  have hl : ns.length ≤ sizeLine := Nat.le_trans hlen hn2
  have rv := vals_ints hints
  have lv := hints.length
  have aT : a ≠ T := fun z => by
    rw [z, hT] at hobj
    cases hobj
  have okT : ∀ {H : Hp}, ObjOk l.prog w H s₁.heap T (TabO T) := tab_obj hT (by exact True.intro)
  cases hk : (K w.params).lookup a with
  | some ob =>
    have e := KX a ob hk
    rw [hobj] at e
    cases e
    have atT : HTab T T = some (TabO T) := if_pos rfl
    refine at_topT (us := vs) (ns := ns) (H := HTab T) KX G.T.g G.T.b G.T.builtins G.T.nolimit hg hr C hT nT G.T.bmain hF hb ?_ ?_ atT hobj (hsp w _ a T ns hlen atT ?_)
    · intro b u e
      by_cases eb : b = T
      · subst eb
        cases atT.symm.trans e
        exact okT
      · cases (if_neg eb).symm.trans e
    · intro b u e
      by_cases eb : b = T
      · exact .inr eb
      · cases (if_neg eb).symm.trans e
    · exact .inr ⟨_, vs.toArray, _, hk, rfl, rfl, rfl, by rw [List.size_toArray, lv]; exact hl, by simpa using rv⟩
  | none =>
    have atT : HScrT a T vs ns T = some (TabO T) := if_pos rfl
    have at_ : HScrT a T vs ns a = some (.frz { cls := .type "list", data := .seq vs.toArray } (.lst (ns.map V.int))) := (if_neg aT).trans (if_pos rfl)
    have other : ∀ b, b ≠ T → b ≠ a → HScrT a T vs ns b = none := fun b h1 h2 => (if_neg h1).trans (if_neg h2)
    refine at_topT (us := vs) (ns := ns) (H := HScrT a T vs ns) KX G.T.g G.T.b G.T.builtins G.T.nolimit hg hr C hT nT G.T.bmain hF hb ?_ ?_ atT hobj (hsp w _ a T ns hlen atT (.inl (.inr ⟨_, at_⟩)))
    · intro b u e
      by_cases eT : b = T
      · subst eT
        cases atT.symm.trans e
        exact okT
      · by_cases eb : b = a
        · subst eb
          cases at_.symm.trans e
          exact ⟨hobj, by rw [List.length_map]; exact hl, vs, _, rv, hobj⟩
        · cases (other b eT eb).symm.trans e
    · intro b u e
      by_cases eT : b = T
      · exact .inr eT
      · by_cases eb : b = a
        · subst eb
          cases at_.symm.trans e
          exact .inl ⟨rfl, hk, rfl⟩
        · cases (other b eT eb).symm.trans e
end
end Xi

namespace Xi
open PySem PySem.Spec PyProof.Rows L2
/-! ## wishes: the mathematics -/
/-- the walk that finds the greatest sum of a stretch -/
def kadE (f : Nat → Int) : Nat → Int
  | 0 => 0
  | n + 1 => if kadE f n + f n > 0 then kadE f n + f n else 0
def kadB (f : Nat → Int) (b : Int) : Nat → Int
  | 0 => b
  | n + 1 => if kadE f (n + 1) > kadB f b n then kadE f (n + 1) else kadB f b n
theorem kadE_congr {f g : Nat → Int} : ∀ {n : Nat}, (∀ i, i < n → f i = g i) → kadE f n = kadE g n
  | 0, _ => rfl
  | n + 1, h => by
    unfold kadE
    rw [kadE_congr fun i hi => h i (Nat.lt_succ_of_lt hi), h n (Nat.lt_succ_self n)]
theorem kadB_congr {f g : Nat → Int} {b : Int} : ∀ {n : Nat}, (∀ i, i < n → f i = g i) → kadB f b n = kadB g b n
  | 0, _ => rfl
  | n + 1, h => by
    unfold kadB
    rw [kadB_congr fun i hi => h i (Nat.lt_succ_of_lt hi), kadE_congr h]
theorem kadE_top (f : Nat → Int) : ∀ n, Kd f n (kadE f n)
  | 0 => kd_zero f
  | n + 1 => kd_step (kadE_top f n)
theorem kadB_top {S : Int → Prop} {b : Int} (f : Nat → Int) (s0 : S 0) (t : Top S b) : ∀ n, Top (Kb S f n) (kadB f b n)
  | 0 => t.congr fun v => (kb_zero S f v).symm
  | n + 1 => kb_step s0 (kadE_top f (n + 1)) (kadB_top f s0 t n)
/-- of each cell, how often it is punched at least, and at most -/
def fewAt (ws : List Int) (i : Nat) : Int := if (i : Int) ∈ ws then 1 else 0
def mostAt (cs : List (Bool × Int)) (ws : List Int) (i : Nat) : Int := if (cs.getD i (false, 0)).1 = true ∨ (i : Int) ∈ ws then (cs.getD i (false, 0)).2 else 0
def bndL (cs : List (Bool × Int)) (ws : List Int) : List (Int × Int) := (List.range cs.length).map fun i => (fewAt ws i, mostAt cs ws i)
theorem bndL_len (cs : List (Bool × Int)) (ws : List Int) : (bndL cs ws).length = cs.length := by
  unfold bndL
  rw [List.length_map, List.length_range]
theorem bndL_at {cs : List (Bool × Int)} {ws : List Int} {i : Nat} (h : i < cs.length) : (bndL cs ws).getD i (0, 0) = (fewAt ws i, mostAt cs ws i) := by
  unfold bndL
  rw [List.getD_eq_getElem?_getD, List.getElem?_map, List.getElem?_range h] <;> rfl
def val (bs : List (Int × Int)) (p i : Nat) : Int := if (i : Int) % 2 = (p : Int) then (bs.getD i (0, 0)).1 else -(bs.getD i (0, 0)).2
/-- the greatest worth -/
def gw (bs : List (Int × Int)) : Int := kadB (val bs 1) (kadB (val bs 0) 0 bs.length) bs.length
/-- what a stretch may be worth -/
def Wst (bs : List (Int × Int)) : Int → Prop := fun v => v = 0 ∨ ∃ p i j, p < 2 ∧ i < j ∧ j ≤ bs.length ∧ v = pre (val bs p) j - pre (val bs p) i
theorem gw_top (bs : List (Int × Int)) : Top (Wst bs) (gw bs) := by
  have t0 := kadB_top (S := fun v => v = 0) (val bs 0) rfl top_zero bs.length
  have t1 := kadB_top (val bs 1) (.inl rfl) t0 bs.length
  refine t1.congr fun v => ⟨?_, ?_⟩
  · rintro ((h | ⟨i, j, a, b, c⟩) | ⟨i, j, a, b, c⟩)
    · exact .inl h
    · exact .inr ⟨0, i, j, by decide, a, b, c⟩
    · exact .inr ⟨1, i, j, by decide, a, b, c⟩
  · rintro (h | ⟨p, i, j, hp, a, b, c⟩)
    · exact .inl (.inl h)
    · have : p = 0 ∨ p = 1 := by omega
      rcases this with rfl | rfl
      · exact .inl (.inr ⟨i, j, a, b, c⟩)
      · exact .inr ⟨i, j, a, b, c⟩
/-- the first wished cell without a pass -/
def torn (cs : List (Bool × Int)) (ws : List Int) : Option Int := ws.find? fun z => (cs.getD z.toNat (false, 0)).2 == 0
/-- the fewest punches, or none -/
def fewO (cs : List (Bool × Int)) (ws : List Int) : Option Int := match torn cs ws with
  | some _ => none
  | none => some (gw (bndL cs ws))
/-- pairs of numbers, in tuples -/
structure Bnds (H : Hp) (q : Addr) (rs : List Addr) (bs : List (Int × Int)) : Prop where
  at_ : H q = some (.lst (rs.map V.ref))
  len : rs.length = bs.length
  get : ∀ (j : Nat) (b : Int × Int), bs[j]? = some b → ∃ r, rs[j]? = some r ∧ H r = some (.tup [.int b.1, .int b.2])
theorem Bnds.same {H H' : Hp} {a : Addr} {rs : List Addr} {cs : List (Int × Int)} (h : Bnds H a rs cs) (s : Same H H') : Bnds H' a rs cs := ⟨s _ _ h.at_, h.len, fun j c e => by
  obtain ⟨r, x, y⟩ := h.get j c e
  exact ⟨r, x, s _ _ y⟩⟩
/-- a strip at a, a rising list of its cells at y -/
structure Wish (H : Hp) (a y : Addr) (rs : List Addr) (cs : List (Bool × Int)) (ws : List Int) : Prop where
  c : Cells H a rs cs
  w : H y = some (.lst (ws.map V.int))
  l : cs.length ≤ 1000
  lw : ws.length ≤ 1000
  b : ∀ z ∈ ws, 0 ≤ z ∧ z < (cs.length : Int)
theorem Wish.same {H H' : Hp} {a y : Addr} {rs : List Addr} {cs : List (Bool × Int)} {ws : List Int} (h : Wish H a y rs cs ws) (s : Same H H') : Wish H' a y rs cs ws := ⟨h.c.same s, s _ _ h.w, h.l, h.lw, h.b⟩
/-- each greater than the one ahead, all below m -/
def risB (m : Int) : Int → List Int → Bool
  | _, [] => true
  | a, c :: r => decide (a < c) && decide (c < m) && risB m c r
theorem risB_cons (m a c : Int) (r : List Int) : risB m a (c :: r) = (decide (a < c) && decide (c < m) && risB m c r) := rfl
theorem risB_iff {m : Int} : ∀ {fs : List Int} {a : Int}, risB m a fs = true ↔ (∀ c ∈ fs, a < c ∧ c < m) ∧ fs.Pairwise (· < ·)
  | [], a => ⟨fun _ => ⟨fun c hc => (by cases hc), List.Pairwise.nil⟩, fun _ => rfl⟩
  | c :: r, a => by
    rw [risB_cons, Bool.and_eq_true, Bool.and_eq_true, decide_eq_true_eq, decide_eq_true_eq, risB_iff (fs := r) (a := c), List.pairwise_cons]
    constructor
    · rintro ⟨⟨h1, h2⟩, h3, h4⟩
      refine ⟨fun x hx => ?_, fun x hx => (h3 x hx).1, h4⟩
      rcases List.mem_cons.mp hx with rfl | hx
      · exact ⟨h1, h2⟩
      · have := h3 x hx
        omega
    · rintro ⟨h1, h2, h3⟩
      have h4 := h1 c List.mem_cons_self
      exact ⟨h4, fun x hx => ⟨h2 x hx, (h1 x (List.mem_cons_of_mem _ hx)).2⟩, h3⟩
/-- the wish is one of the strip -/
def okW (cs : List (Bool × Int)) (ws : List Int) : Bool := risB (cs.length : Int) (-1) ws && !(ws.any fun z => (cs.getD z.toNat (false, 0)).1)
theorem okW_b {cs : List (Bool × Int)} {ws : List Int} (h : risB (cs.length : Int) (-1) ws = true) : ∀ z ∈ ws, 0 ≤ z ∧ z < (cs.length : Int) := fun z hz => by
  have := (risB_iff.mp h).1 z hz
  omega
theorem Bnds.nil {H : Hp} {q : Addr} : Bnds (upd H q (.lst [])) q [] [] := ⟨upd_same, rfl, fun j b e => by simp at e⟩
theorem Bnds.push {H : Hp} {q t : Addr} {rs : List Addr} {bs : List (Int × Int)} (h : Bnds H q rs bs) (nt : H t = none) (x y : Int) : Bnds (upd (upd H t (.tup [.int x, .int y])) q (.lst (rs.map V.ref ++ [.ref t]))) q (rs ++ [t]) (bs ++ [(x, y)]) := by
  have tq : t ≠ q := (ne_of_none h.at_ nt).symm
  refine ⟨by rw [upd_same, List.map_append] <;> rfl, by rw [List.length_append, List.length_append, h.len] <;> rfl, fun j b e => ?_⟩
  by_cases hj : j < bs.length
  · rw [List.getElem?_append_left hj] at e
    obtain ⟨r, x1, x2⟩ := h.get j b e
    refine ⟨r, by rw [List.getElem?_append_left (by rw [h.len]; exact hj)]; exact x1, ?_⟩
    rw [upd_ne (fun z => by rw [z, h.at_] at x2; cases x2), upd_ne (ne_of_none x2 nt)]
    exact x2
  · have ej : j = bs.length := by
      have := (List.getElem?_eq_some_iff.mp e).1
      simp at this
      omega
    subst ej
    rw [List.getElem?_append_right (Nat.le_refl _), Nat.sub_self] at e
    cases (Option.some.inj e : (x, y) = b)
    exact ⟨t, by rw [← h.len, List.getElem?_append_right (Nat.le_refl _), Nat.sub_self] <;> rfl, by rw [upd_ne tq]; exact upd_same⟩
theorem Bnds.item {H : Hp} {q : Addr} {rs : List Addr} {bs : List (Int × Int)} (h : Bnds H q rs bs) {i : Nat} {x : V} (e : (rs.map V.ref)[i]? = some x) : ∃ r, x = .ref r ∧ i < bs.length ∧ H r = some (.tup [.int (bs.getD i (0, 0)).1, .int (bs.getD i (0, 0)).2]) := by
  rw [List.getElem?_map] at e
  cases er : rs[i]? with
  | none => rw [er] at e; cases e
  | some r =>
    rw [er] at e
    have hi : i < bs.length := by
      rw [← h.len]
      exact (List.getElem?_eq_some_iff.mp er).1
    obtain ⟨r', x1, x2⟩ := h.get i bs[i] (List.getElem?_eq_getElem hi)
    rw [er] at x1
    cases x1
    refine ⟨r, (Option.some.inj e).symm, hi, ?_⟩
    rw [List.getD_eq_getElem?_getD, List.getElem?_eq_getElem hi]
    exact x2
theorem Cells.item {H : Hp} {q : Addr} {rs : List Addr} {cs : List (Bool × Int)} (h : Cells H q rs cs) {i : Nat} {x : V} (e : (rs.map V.ref)[i]? = some x) : ∃ r, x = .ref r ∧ i < cs.length ∧ H r = some (.tup [.bl (cs.getD i (false, 0)).1, .int (cs.getD i (false, 0)).2]) := by
  rw [List.getElem?_map] at e
  cases er : rs[i]? with
  | none => rw [er] at e; cases e
  | some r =>
    rw [er] at e
    have hi : i < cs.length := by
      rw [← h.len]
      exact (List.getElem?_eq_some_iff.mp er).1
    obtain ⟨r', x1, x2⟩ := h.get i cs[i] (List.getElem?_eq_getElem hi)
    rw [er] at x1
    cases x1
    refine ⟨r, (Option.some.inj e).symm, hi, ?_⟩
    rw [List.getD_eq_getElem?_getD, List.getElem?_eq_getElem hi]
    exact x2
theorem Cells.atI {H : Hp} {q : Addr} {rs : List Addr} {cs : List (Bool × Int)} (h : Cells H q rs cs) {z : Int} (z0 : 0 ≤ z) (z1 : z < (cs.length : Int)) : ∃ r, L2.atI (rs.map V.ref) z = some (.ref r) ∧ H r = some (.tup [.bl (cs.getD z.toNat (false, 0)).1, .int (cs.getD z.toNat (false, 0)).2]) := by
  obtain ⟨i, rfl⟩ := Int.eq_ofNat_of_zero_le z0
  have hi : i < rs.length := by rw [h.len]; omega
  obtain ⟨r, x1, _, x3⟩ := h.item (i := i) (x := .ref rs[i]) (by rw [List.getElem?_map, List.getElem?_eq_getElem hi] <;> rfl)
  cases x1
  exact ⟨rs[i], atI_nat (by rw [List.getElem?_map, List.getElem?_eq_getElem hi] <;> rfl), x3⟩
/-- the wished and the holed cells below n -/
def pcdN (cs : List (Bool × Int)) (ws : List Int) (n : Nat) : List Int := ((List.range n).filter fun i : Nat => (cs.getD i (false, 0)).1 || decide ((i : Int) ∈ ws)).map fun i : Nat => (i : Int)
def pcd (cs : List (Bool × Int)) (ws : List Int) : List Int := pcdN cs ws cs.length
theorem pcdN_succ (cs : List (Bool × Int)) (ws : List Int) (n : Nat) : pcdN cs ws (n + 1) = pcdN cs ws n ++ (if ((cs.getD n (false, 0)).1 || decide ((n : Int) ∈ ws)) = true then [(n : Int)] else []) := by
  unfold pcdN
  rw [List.range_succ, List.filter_append, List.map_append]
  cases e : ((cs.getD n (false, 0)).1 || decide ((n : Int) ∈ ws)) with
  | true => rw [List.filter_cons, if_pos e] <;> rfl
  | false => rw [List.filter_cons, if_neg (by rw [e]; exact Bool.false_ne_true)] <;> rfl
theorem pcdN_len (cs : List (Bool × Int)) (ws : List Int) (n : Nat) : (pcdN cs ws n).length ≤ n := by
  unfold pcdN
  rw [List.length_map]
  exact Nat.le_trans (List.length_filter_le _ _) (Nat.le_of_eq List.length_range)
theorem pcd_mem {cs : List (Bool × Int)} {ws : List Int} {z : Int} : z ∈ pcd cs ws ↔ ∃ i : Nat, z = i ∧ i < cs.length ∧ ((cs.getD i (false, 0)).1 = true ∨ (i : Int) ∈ ws) := by
  unfold pcd pcdN
  constructor
  · intro h
    obtain ⟨i, hi, rfl⟩ := List.mem_map.mp h
    obtain ⟨h1, h2⟩ := List.mem_filter.mp hi
    rw [Bool.or_eq_true, decide_eq_true_eq] at h2
    exact ⟨i, rfl, List.mem_range.mp h1, h2⟩
  · rintro ⟨i, rfl, h1, h2⟩
    refine List.mem_map.mpr ⟨i, List.mem_filter.mpr ⟨List.mem_range.mpr h1, ?_⟩, rfl⟩
    rw [Bool.or_eq_true, decide_eq_true_eq]
    exact h2
/-! ### rows (holed, left, liked), as the laws hold them -/
abbrev Rw3 := Bool × Int × Bool
def row0 : Rw3 := (false, 0, false)
def b2 (k : Bool) : Int := if k = true then 1 else 0
def rowL (cs : List (Bool × Int)) (ws : List Int) : List Rw3 := (List.range cs.length).map fun i => ((cs.getD i (false, 0)).1, (cs.getD i (false, 0)).2, decide ((i : Int) ∈ ws))
theorem rowL_len (cs : List (Bool × Int)) (ws : List Int) : (rowL cs ws).length = cs.length := by
  unfold rowL
  rw [List.length_map, List.length_range]
theorem rowL_at {cs : List (Bool × Int)} {ws : List Int} {i : Nat} (h : i < cs.length) : (rowL cs ws).getD i row0 = ((cs.getD i (false, 0)).1, (cs.getD i (false, 0)).2, decide ((i : Int) ∈ ws)) := by
  unfold rowL
  rw [List.getD_eq_getElem?_getD, List.getElem?_map, List.getElem?_range h] <;> rfl
def valR (rows : List Rw3) (p i : Nat) : Int := if (i : Int) % 2 = (p : Int) then b2 (rows.getD i row0).2.2 else 0 - (rows.getD i row0).2.1 * b2 ((rows.getD i row0).1 || (rows.getD i row0).2.2)
def kadR (rows : List Rw3) : Int := kadB (valR rows 1) (kadB (valR rows 0) 0 rows.length) rows.length
def tornR (rows : List Rw3) : Bool := rows.any fun r => r.2.2 && r.2.1 == 0
def fewR (rows : List Rw3) : Option Int := if tornR rows = true then none else some (kadR rows)
theorem valR_row {cs : List (Bool × Int)} {ws : List Int} {p i : Nat} (h : i < cs.length) : valR (rowL cs ws) p i = val (bndL cs ws) p i := by
  unfold valR val
  rw [rowL_at h, bndL_at h]
  show (if (i : Int) % 2 = (p : Int) then b2 (decide ((i : Int) ∈ ws)) else 0 - (cs.getD i (false, 0)).2 * b2 ((cs.getD i (false, 0)).1 || decide ((i : Int) ∈ ws))) = if (i : Int) % 2 = (p : Int) then fewAt ws i else -mostAt cs ws i
  unfold fewAt mostAt b2
  by_cases c : (i : Int) ∈ ws
  · simp [c]
  · cases hh : (cs.getD i (false, 0)).1 <;> simp [c, hh]
theorem kadR_row (cs : List (Bool × Int)) (ws : List Int) : kadR (rowL cs ws) = gw (bndL cs ws) := by
  unfold kadR gw
  rw [rowL_len, bndL_len]
  have e : ∀ p b, kadB (valR (rowL cs ws) p) b cs.length = kadB (val (bndL cs ws) p) b cs.length := fun p b => kadB_congr fun i hi => valR_row hi
  rw [e, e]
theorem torn_iff {cs : List (Bool × Int)} {ws : List Int} : torn cs ws = none ↔ ∀ z ∈ ws, (cs.getD z.toNat (false, 0)).2 ≠ 0 := by
  unfold torn
  rw [List.find?_eq_none]
  exact ⟨fun h z hz e => h z hz (by rw [e] <;> rfl), fun h z hz e => h z hz (by simpa using e)⟩
theorem tornR_row {cs : List (Bool × Int)} {ws : List Int} (hb : ∀ z ∈ ws, 0 ≤ z ∧ z < (cs.length : Int)) : tornR (rowL cs ws) = true ↔ torn cs ws ≠ none := by
  rw [Ne, torn_iff]
  unfold tornR
  rw [List.any_eq_true]
  constructor
  · rintro ⟨r, hr, h⟩ g
    unfold rowL at hr
    obtain ⟨i, hi, rfl⟩ := List.mem_map.mp hr
    rw [Bool.and_eq_true, decide_eq_true_eq, beq_iff_eq] at h
    exact g i h.1 (by rw [Int.toNat_natCast]; exact h.2)
  · intro g
    obtain ⟨z, hz⟩ := Classical.not_forall.mp g
    obtain ⟨hz, e⟩ := Classical.not_imp.mp hz
    have e := Classical.not_not.mp e
    obtain ⟨z0, z1⟩ := hb z hz
    obtain ⟨i, rfl⟩ := Int.eq_ofNat_of_zero_le z0
    refine ⟨_, List.mem_map.mpr ⟨i, List.mem_range.mpr (by omega), rfl⟩, ?_⟩
    rw [Bool.and_eq_true, decide_eq_true_eq, beq_iff_eq]
    exact ⟨hz, by rw [Int.toNat_natCast] at e; exact e⟩
theorem fewR_row {cs : List (Bool × Int)} {ws : List Int} (hb : ∀ z ∈ ws, 0 ≤ z ∧ z < (cs.length : Int)) : fewR (rowL cs ws) = fewO cs ws := by
  unfold fewR fewO
  rw [kadR_row]
  cases e : torn cs ws with
  | none => rw [if_neg (fun z => (tornR_row hb).mp z e)]
  | some z => rw [if_pos ((tornR_row hb).mpr (by rw [e]; exact fun q => nomatch q))]
theorem rowL_set {cs : List (Bool × Int)} {ws : List Int} {i : Nat} (hi : i < cs.length) (c : Bool × Int) : (rowL cs ws).set i (c.1, c.2, decide ((i : Int) ∈ ws)) = rowL (cs.set i c) ws := by
  refine List.ext_getElem? fun j => ?_
  unfold rowL
  rw [List.length_set, List.getElem?_map]
  by_cases hj : j < cs.length
  · rw [List.getElem?_range hj]
    by_cases e : i = j
    · subst e
      rw [List.getElem?_set_self (by rw [List.length_map, List.length_range]; exact hj)]
      show _ = some (((cs.set i c).getD i (false, 0)).1, ((cs.set i c).getD i (false, 0)).2, decide ((i : Int) ∈ ws))
      rw [List.getD_eq_getElem?_getD, List.getElem?_set_self hi] <;> rfl
    · rw [List.getElem?_set_ne e, List.getElem?_map, List.getElem?_range hj]
      show _ = some (((cs.set i c).getD j (false, 0)).1, ((cs.set i c).getD j (false, 0)).2, decide ((j : Int) ∈ ws))
      rw [List.getD_eq_getElem?_getD, List.getElem?_set_ne e, ← List.getD_eq_getElem?_getD] <;> rfl
  · rw [List.getElem?_eq_none (by rw [List.length_set, List.length_map, List.length_range]; omega), List.getElem?_eq_none (by rw [List.length_range]; omega)] <;> rfl
structure Rows (H : Hp) (a : Addr) (rs : List Addr) (rows : List Rw3) : Prop where
  at_ : H a = some (.lst (rs.map V.ref))
  len : rs.length = rows.length
  get : ∀ (j : Nat) (c : Rw3), rows[j]? = some c → ∃ r, rs[j]? = some r ∧ H r = some (.tup [.bl c.1, .int c.2.1, .bl c.2.2])
theorem Rows.same {H H' : Hp} {a : Addr} {rs : List Addr} {rows : List Rw3} (h : Rows H a rs rows) (s : Same H H') : Rows H' a rs rows := ⟨s _ _ h.at_, h.len, fun j c e => by
  obtain ⟨r, x, y⟩ := h.get j c e
  exact ⟨r, x, s _ _ y⟩⟩
theorem Rows.nil {H : Hp} {q : Addr} : Rows (upd H q (.lst [])) q [] [] := ⟨upd_same, rfl, fun j b e => by simp at e⟩
theorem Rows.push {H : Hp} {q t : Addr} {rs : List Addr} {rows : List Rw3} (h : Rows H q rs rows) (nt : H t = none) (c : Rw3) : Rows (upd (upd H t (.tup [.bl c.1, .int c.2.1, .bl c.2.2])) q (.lst (rs.map V.ref ++ [.ref t]))) q (rs ++ [t]) (rows ++ [c]) := by
  have tq : t ≠ q := (ne_of_none h.at_ nt).symm
  refine ⟨by rw [upd_same, List.map_append] <;> rfl, by rw [List.length_append, List.length_append, h.len] <;> rfl, fun j b e => ?_⟩
  by_cases hj : j < rows.length
  · rw [List.getElem?_append_left hj] at e
    obtain ⟨r, x1, x2⟩ := h.get j b e
    refine ⟨r, by rw [List.getElem?_append_left (by rw [h.len]; exact hj)]; exact x1, ?_⟩
    rw [upd_ne (fun z => by rw [z, h.at_] at x2; cases x2), upd_ne (ne_of_none x2 nt)]
    exact x2
  · have ej : j = rows.length := by
      have := (List.getElem?_eq_some_iff.mp e).1
      simp at this
      omega
    subst ej
    rw [List.getElem?_append_right (Nat.le_refl _), Nat.sub_self] at e
    cases (Option.some.inj e : c = b)
    exact ⟨t, by rw [← h.len, List.getElem?_append_right (Nat.le_refl _), Nat.sub_self] <;> rfl, by rw [upd_ne tq]; exact upd_same⟩
theorem Rows.item {H : Hp} {q : Addr} {rs : List Addr} {rows : List Rw3} (h : Rows H q rs rows) {i : Nat} {x : V} (e : (rs.map V.ref)[i]? = some x) : ∃ r, x = .ref r ∧ i < rows.length ∧ H r = some (.tup [.bl (rows.getD i row0).1, .int (rows.getD i row0).2.1, .bl (rows.getD i row0).2.2]) := by
  rw [List.getElem?_map] at e
  cases er : rs[i]? with
  | none => rw [er] at e; cases e
  | some r =>
    rw [er] at e
    have hi : i < rows.length := by
      rw [← h.len]
      exact (List.getElem?_eq_some_iff.mp er).1
    obtain ⟨r', x1, x2⟩ := h.get i rows[i] (List.getElem?_eq_getElem hi)
    rw [er] at x1
    cases x1
    refine ⟨r, (Option.some.inj e).symm, hi, ?_⟩
    rw [List.getD_eq_getElem?_getD, List.getElem?_eq_getElem hi]
    exact x2
theorem Rows.atI {H : Hp} {q : Addr} {rs : List Addr} {rows : List Rw3} (h : Rows H q rs rows) {i : Nat} (hi : i < rows.length) : ∃ r, L2.atI (rs.map V.ref) (i : Int) = some (.ref r) ∧ H r = some (.tup [.bl (rows.getD i row0).1, .int (rows.getD i row0).2.1, .bl (rows.getD i row0).2.2]) := by
  have hi2 : i < rs.length := by rw [h.len]; exact hi
  obtain ⟨r, x1, _, x3⟩ := h.item (i := i) (x := .ref rs[i]) (by rw [List.getElem?_map, List.getElem?_eq_getElem hi2] <;> rfl)
  cases x1
  exact ⟨rs[i], atI_nat (by rw [List.getElem?_map, List.getElem?_eq_getElem hi2] <;> rfl), x3⟩
theorem Rows.set {H : Hp} {a q t : Addr} {rs : List Addr} {rows : List Rw3} (h : Rows H a rs rows) {i : Nat} (hi : i < rows.length) {c : Rw3} (eq : H q = some (.lst ((rs.map V.ref).set i (.ref t)))) (et : H t = some (.tup [.bl c.1, .int c.2.1, .bl c.2.2])) : Rows H q (rs.set i t) (rows.set i c) := by
  refine ⟨by rw [eq, List.map_set], by rw [List.length_set, List.length_set, h.len], fun j d e => ?_⟩
  by_cases hj : i = j
  · subst hj
    rw [List.getElem?_set_self hi] at e
    cases e
    exact ⟨t, List.getElem?_set_self (by rw [h.len]; exact hi), et⟩
  · rw [List.getElem?_set_ne hj] at e
    obtain ⟨r, x1, x2⟩ := h.get j d e
    exact ⟨r, by rw [List.getElem?_set_ne hj]; exact x1, x2⟩
theorem Cells.nil {H : Hp} {q : Addr} (e : H q = some (.lst [])) : Cells H q [] [] := ⟨e, rfl, fun j b e => by simp at e⟩
theorem Cells.push {H : Hp} {q t : Addr} {rs : List Addr} {cs : List (Bool × Int)} (h : Cells H q rs cs) (nt : H t = none) (c : Bool × Int) : Cells (upd (upd H t (.tup [.bl c.1, .int c.2])) q (.lst (rs.map V.ref ++ [.ref t]))) q (rs ++ [t]) (cs ++ [c]) := by
  have tq : t ≠ q := (ne_of_none h.at_ nt).symm
  refine ⟨by rw [upd_same, List.map_append] <;> rfl, by rw [List.length_append, List.length_append, h.len] <;> rfl, fun j b e => ?_⟩
  by_cases hj : j < cs.length
  · rw [List.getElem?_append_left hj] at e
    obtain ⟨r, x1, x2⟩ := h.get j b e
    refine ⟨r, by rw [List.getElem?_append_left (by rw [h.len]; exact hj)]; exact x1, ?_⟩
    rw [upd_ne (fun z => by rw [z, h.at_] at x2; cases x2), upd_ne (ne_of_none x2 nt)]
    exact x2
  · have ej : j = cs.length := by
      have := (List.getElem?_eq_some_iff.mp e).1
      simp at this
      omega
    subst ej
    rw [List.getElem?_append_right (Nat.le_refl _), Nat.sub_self] at e
    cases (Option.some.inj e : c = b)
    exact ⟨t, by rw [← h.len, List.getElem?_append_right (Nat.le_refl _), Nat.sub_self] <;> rfl, by rw [upd_ne tq]; exact upd_same⟩
/-- another list grows -/
theorem Cells.aside {H : Hp} {q b : Addr} {xs : List V} {rs : List Addr} {cs : List (Bool × Int)} {ys : List V} (h : Cells H q rs cs) (nb : b ≠ q) (eb : H b = some (.lst ys)) : Cells (upd H b (.lst xs)) q rs cs := ⟨by rw [upd_ne nb.symm]; exact h.at_, h.len, fun j c e => by
  obtain ⟨r, x1, x2⟩ := h.get j c e
  exact ⟨r, x1, by rw [upd_ne (fun z => by rw [z, eb] at x2; cases x2)]; exact x2⟩⟩
/-- a wish of whole cells that have passes -/
structure WOk (cs : List (Bool × Int)) (ws : List Int) : Prop where
  b : ∀ z ∈ ws, 0 ≤ z ∧ z < (cs.length : Int)
  r : ws.Pairwise (· < ·)
  w : ∀ z ∈ ws, (cs.getD z.toNat (false, 0)).1 = false
theorem WOk.ok {cs : List (Bool × Int)} {ws : List Int} (h : WOk cs ws) : okW cs ws = true := by
  unfold okW
  rw [Bool.and_eq_true, Bool.not_eq_true']
  refine ⟨risB_iff.mpr ⟨fun c hc => ?_, h.r⟩, List.any_eq_false.mpr fun z hz => ?_⟩
  · have := h.b c hc
    omega
  · rw [h.w z hz]
    exact Bool.false_ne_true
theorem WOk.of {cs : List (Bool × Int)} {ws : List Int} (h : okW cs ws = true) : WOk cs ws := by
  unfold okW at h
  rw [Bool.and_eq_true, Bool.not_eq_true'] at h
  refine ⟨okW_b h.1, (risB_iff.mp h.1).2, fun z hz => ?_⟩
  have := List.any_eq_false.mp h.2 z hz
  exact Bool.eq_false_iff.mpr this
theorem getD_app {cs : List (Bool × Int)} {c : Bool × Int} {i : Nat} (h : i < cs.length) : (cs ++ [c]).getD i (false, 0) = cs.getD i (false, 0) := by
  rw [List.getD_eq_getElem?_getD, List.getElem?_append_left h, ← List.getD_eq_getElem?_getD]
theorem getD_last {cs : List (Bool × Int)} {c : Bool × Int} : (cs ++ [c]).getD cs.length (false, 0) = c := by
  rw [List.getD_eq_getElem?_getD, List.getElem?_append_right (Nat.le_refl _), Nat.sub_self] <;> rfl
theorem getD_set {cs : List (Bool × Int)} {c : Bool × Int} {i j : Nat} (h : i < cs.length) : (cs.set i c).getD j (false, 0) = if i = j then c else cs.getD j (false, 0) := by
  rw [List.getD_eq_getElem?_getD]
  by_cases e : i = j
  · subst e
    rw [List.getElem?_set_self h, if_pos rfl] <;> rfl
  · rw [List.getElem?_set_ne e, if_neg e, ← List.getD_eq_getElem?_getD]
theorem pw_app {ws : List Int} {z : Int} (h : ws.Pairwise (· < ·)) (g : ∀ x ∈ ws, x < z) : (ws ++ [z]).Pairwise (· < ·) := by
  rw [List.pairwise_append]
  refine ⟨h, List.pairwise_singleton _ _, fun x hx y hy => ?_⟩
  rw [List.mem_singleton.mp hy]
  exact g x hx
/-! ### strips as data -/
def cellD (c : Bool × Int) : PyData := .tuple [.bool c.1, .int c.2]
def cellsD (cs : List (Bool × Int)) : PyData := .list (cs.map cellD)
theorem dt_cells {H : Hp} {a : Addr} {rs : List Addr} {cs : List (Bool × Int)} (h : Cells H a rs cs) : Dt H (.ref a) (cellsD cs) := by
  refine .lst h.at_ ?_
  have core : ∀ (rs : List Addr) (cs : List (Bool × Int)), rs.length = cs.length → (∀ (j : Nat) (c : Bool × Int), cs[j]? = some c → ∃ r, rs[j]? = some r ∧ H r = some (.tup [.bl c.1, .int c.2])) → DtAll H (rs.map V.ref) (cs.map cellD) := by
    intro rs
    induction rs with
    | nil =>
      intro cs hl _
      cases cs with
      | nil => exact .nil
      | cons l cs => cases hl
    | cons r rs ih =>
      intro cs hl h
      cases cs with
      | nil => cases hl
      | cons c cs =>
        obtain ⟨r', e1, e2⟩ := h 0 c rfl
        cases (Option.some.inj e1 : r = r')
        exact .cons (.tup e2 (.cons (.bl _) (.cons (.int _) .nil))) (ih cs (Nat.succ.inj hl) fun j c e => h (j + 1) c e)
  exact core rs cs h.len h.get
theorem prt_cells {cs : List (Bool × Int)} (h : ∀ c ∈ cs, c.2.natAbs < 10 ^ 31) : prt 2 (cellsD cs) := prt_list fun d hd => by
  obtain ⟨c, hc, rfl⟩ := List.mem_map.mp hd
  refine prt_tup fun e he => ?_
  simp only [List.mem_cons, List.not_mem_nil, or_false] at he
  rcases he with rfl | rfl
  · exact True.intro
  · exact h c hc
theorem wt_cells (cs : List (Bool × Int)) : wt (cellsD cs) ≤ cs.length * 55 + 2 := by
  have e := wtAll_le (m := 53) (ds := cs.map cellD) fun d hd => by
    obtain ⟨c, _, rfl⟩ := List.mem_map.mp hd
    exact Nat.le_refl 53
  rw [List.length_map] at e
  show wtAll (cs.map cellD) + 2 ≤ _
  omega
theorem prt_up : ∀ {n : Nat} {d : PyData}, prt n d → prt (n + 1) d
  | _, .none, _ => by unfold prt; trivial
  | _, .bool _, _ => by unfold prt; trivial
  | 0, .int i, h => h
  | _ + 1, .int i, h => h
  | 0, .str _, h => h.elim
  | _ + 1, .str _, h => h.elim
  | 0, .list _, h => h.elim
  | 0, .tuple _, h => h.elim
  | 0, .dict _, h => h.elim
  | _ + 1, .dict _, h => h.elim
  | n + 1, .list ds, h => fun d hd => prt_up (h d hd)
  | n + 1, .tuple ds, h => fun d hd => prt_up (h d hd)
/-- a strip and a wish, told together -/
def pairD (cs : List (Bool × Int)) (ws : List Int) : PyData := .list [cellsD cs, intsD ws]
theorem pair_repr {cs : List (Bool × Int)} {ws : List Int} (h : ∀ c ∈ cs, c.2.natAbs < 10 ^ 31) (g : ∀ z ∈ ws, z.natAbs < 10 ^ 31) (l : cs.length ≤ 1000) (lw : ws.length ≤ 1000) : (pairD cs ws).showable = true ∧ SeqAt.shaped (pairD cs ws) = true ∧ (pairD cs ws).shown.length ≤ sizeLine := by
  refine repr_facts (n := 3) (prt_list fun d hd => ?_) ?_
  · simp only [List.mem_cons, List.not_mem_nil, or_false] at hd
    rcases hd with rfl | rfl
    · exact prt_cells h
    · exact prt_up (prt_ints g)
  · have a := wt_cells cs
    have b := wt_ints ws
    show (wt (cellsD cs) + 2 + (wt (intsD ws) + 2 + 0)) + 2 ≤ _
    omega
theorem dt_pair {H : Hp} {q a y : Addr} {rs : List Addr} {cs : List (Bool × Int)} {ws : List Int} (h : Wish H a y rs cs ws) (e : H q = some (.lst [.ref a, .ref y])) : Dt H (.ref q) (pairD cs ws) := .lst e (.cons (dt_cells h.c) (.cons (dt_intsL h.w) .nil))
theorem gw_nonneg (bs : List (Int × Int)) : 0 ≤ gw bs := (gw_top bs).le 0 (.inl rfl)
theorem pre_mono {f : Nat → Int} {i : Nat} : ∀ {j : Nat}, i ≤ j → (∀ k, k < j → f k ≤ 0) → pre f j ≤ pre f i
  | 0, h, _ => by
    have e : i = 0 := Nat.le_zero.mp h
    subst e
    exact Int.le_refl _
  | j + 1, h, g => by
    rcases Nat.lt_or_ge i (j + 1) with c | c
    · have := pre_mono (f := f) (i := i) (j := j) (Nat.le_of_lt_succ c) fun k hk => g k (Nat.lt_succ_of_lt hk)
      have := g j (Nat.lt_succ_self j)
      rw [pre_succ]
      omega
    · have e : i = j + 1 := by omega
      subst e
      exact Int.le_refl _
theorem gw_nil {cs : List (Bool × Int)} (h : ∀ c ∈ cs, 0 ≤ c.2) : gw (bndL cs []) = 0 := by
  have t := gw_top (bndL cs [])
  have n := gw_nonneg (bndL cs [])
  rcases t.mem with e | ⟨p, i, j, hp, hij, hj, e⟩
  · exact e
  · have m := pre_mono (f := val (bndL cs []) p) (Nat.le_of_lt hij) fun k hk => by
      have hk2 : k < cs.length := by
        rw [← bndL_len cs []]
        omega
      unfold val
      rw [bndL_at hk2]
      show (if (k : Int) % 2 = (p : Int) then fewAt [] k else -mostAt cs [] k) ≤ 0
      have e1 : fewAt [] k = 0 := if_neg (by simp)
      have e2 : 0 ≤ mostAt cs [] k := by
        unfold mostAt
        split
        · rw [List.getD_eq_getElem?_getD, List.getElem?_eq_getElem hk2]
          exact h _ (List.getElem_mem hk2)
        · exact Int.le_refl _
      split <;> omega
    omega
/-- with so many passes more at a cell -/
def upC (cs : List (Bool × Int)) (z : Int) (m : Int) : List (Bool × Int) := cs.set z.toNat ((cs.getD z.toNat (false, 0)).1, (cs.getD z.toNat (false, 0)).2 + m)
theorem upC_len (cs : List (Bool × Int)) (z m : Int) : (upC cs z m).length = cs.length := List.length_set
theorem upC_at {cs : List (Bool × Int)} {z m : Int} {j : Nat} (h : z.toNat < cs.length) : (upC cs z m).getD j (false, 0) = if z.toNat = j then ((cs.getD z.toNat (false, 0)).1, (cs.getD z.toNat (false, 0)).2 + m) else cs.getD j (false, 0) := getD_set h
theorem upC_wok {cs : List (Bool × Int)} {ws : List Int} {z m : Int} (h : z.toNat < cs.length) (o : WOk cs ws) : WOk (upC cs z m) ws := ⟨fun x hx => by rw [upC_len]; exact o.b x hx, o.r, fun x hx => by
  rw [upC_at h]
  split
  · rename_i e
    rw [e]
    exact o.w x hx
  · exact o.w x hx⟩
/-- another cell in a place where it is not wished -/
theorem wok_set {cs : List (Bool × Int)} {ws : List Int} {i : Nat} {c : Bool × Int} (h : i < cs.length) (o : WOk cs ws) (n : ¬ (i : Int) ∈ ws) : WOk (cs.set i c) ws := ⟨fun x hx => by rw [List.length_set]; exact o.b x hx, o.r, fun x hx => by
  rw [getD_set h]
  split
  · rename_i e
    have := o.b x hx
    exact (n (by rw [e, Int.toNat_of_nonneg this.1]; exact hx)).elim
  · exact o.w x hx⟩
/-- what is told: the punched cells by a pass more of which it would be less -/
def chpN (cs : List (Bool × Int)) (ws : List Int) (b : Int) (n : Nat) : List Int := (pcdN cs ws n).filter fun z => decide (gw (bndL (upC cs z 1) ws) < b)
def chp (cs : List (Bool × Int)) (ws : List Int) : List Int := match fewO cs ws with
  | none => []
  | some b => chpN cs ws b cs.length
theorem filt_app {α : Type} (p : α → Bool) (xs : List α) (x : α) (c : Bool) : (xs ++ if c = true then [x] else []).filter p = xs.filter p ++ if (c && p x) = true then [x] else [] := by
  rw [List.filter_append]
  cases c with
  | true =>
    rw [if_pos rfl, Bool.true_and, List.filter_cons]
    split <;> rfl
  | false => rfl
theorem torn_up {cs : List (Bool × Int)} {ws : List Int} {z : Int} (h : z.toNat < cs.length) (g : ∀ c ∈ cs, 0 ≤ c.2) (t : torn cs ws = none) : torn (upC cs z 1) ws = none := by
  rw [torn_iff] at t ⊢
  intro x hx
  rw [upC_at h]
  split
  · show (cs.getD z.toNat (false, 0)).2 + 1 ≠ 0
    have : 0 ≤ (cs.getD z.toNat (false, 0)).2 := by
      rw [List.getD_eq_getElem?_getD, List.getElem?_eq_getElem h]
      exact g _ (List.getElem_mem h)
    omega
  · exact t x hx
/-- another list grows -/
theorem Rows.aside {H : Hp} {q b : Addr} {xs : List V} {rs : List Addr} {rows : List Rw3} {ys : List V} (h : Rows H q rs rows) (nb : b ≠ q) (eb : H b = some (.lst ys)) : Rows (upd H b (.lst xs)) q rs rows := ⟨by rw [upd_ne nb.symm]; exact h.at_, h.len, fun j c e => by
  obtain ⟨r, x1, x2⟩ := h.get j c e
  exact ⟨r, x1, by rw [upd_ne (fun z => by rw [z, eb] at x2; cases x2)]; exact x2⟩⟩
/-- a wished cell alone is a stretch -/
theorem gw_pos {cs : List (Bool × Int)} {ws : List Int} (h : ∀ z ∈ ws, 0 ≤ z ∧ z < (cs.length : Int)) (n : ws ≠ []) : 1 ≤ gw (bndL cs ws) := by
  cases ws with
  | nil => exact (n rfl).elim
  | cons z r =>
    obtain ⟨z0, z1⟩ := h z List.mem_cons_self
    obtain ⟨i, rfl⟩ := Int.eq_ofNat_of_zero_le z0
    have hi : i < cs.length := by omega
    have hp : ∃ p : Nat, p < 2 ∧ (i : Int) % 2 = (p : Int) := ⟨((i : Int) % 2).toNat, by omega, by omega⟩
    obtain ⟨p, p2, ep⟩ := hp
    refine (gw_top _).le 1 (.inr ⟨p, i, i + 1, p2, Nat.lt_succ_self i, by rw [bndL_len]; exact hi, ?_⟩)
    rw [pre_succ]
    have e : val (bndL cs ((i : Int) :: r)) p i = 1 := by
      unfold val
      rw [if_pos ep, bndL_at hi]
      exact if_pos List.mem_cons_self
    omega
theorem fewO_some {cs : List (Bool × Int)} {ws : List Int} {b : Int} (h : fewO cs ws = some b) : torn cs ws = none ∧ b = gw (bndL cs ws) := by
  unfold fewO at h
  cases e : torn cs ws with
  | some z =>
    rw [e] at h
    cases h
  | none =>
    rw [e] at h
    exact ⟨rfl, (Option.some.inj h).symm⟩
/-- nothing is wanted just where nothing is wished -/
theorem few_zero {cs : List (Bool × Int)} {ws : List Int} {b : Int} (h : fewO cs ws = some b) (g : ∀ z ∈ ws, 0 ≤ z ∧ z < (cs.length : Int)) (p : ∀ c ∈ cs, 0 ≤ c.2) : b = 0 ↔ ws = [] := by
  have e := (fewO_some h).2
  constructor
  · intro z
    cases ws with
    | nil => rfl
    | cons x r =>
      have := gw_pos g (fun q => nomatch q)
      omega
  · intro z
    rw [e, z, gw_nil p]
/-- whether a pass less of the cell makes it dearer -/
def deaQ (cs : List (Bool × Int)) (ws : List Int) (b : Int) (z : Int) : Bool := decide (0 < (cs.getD z.toNat (false, 0)).2) && (match fewO (upC cs z (-1)) ws with
  | none => true
  | some v => decide (b < v))
def deaN (cs : List (Bool × Int)) (ws : List Int) (b : Int) (n : Nat) : List Int := (pcdN cs ws n).filter (deaQ cs ws b)
def dea (cs : List (Bool × Int)) (ws : List Int) : List Int := if ws = [] then [] else match fewO cs ws with
  | none => []
  | some b => deaN cs ws b cs.length
/-- the whole cells not wished by a hole in which it would be less -/
def helQ (cs : List (Bool × Int)) (ws : List Int) (b : Int) (i : Nat) : Bool := !((cs.getD i (false, 0)).1) && !(decide ((i : Int) ∈ ws)) && decide (gw (bndL (cs.set i (true, (cs.getD i (false, 0)).2)) ws) < b)
def helN (cs : List (Bool × Int)) (ws : List Int) (b : Int) (n : Nat) : List Int := ((List.range n).filter (helQ cs ws b)).map fun i : Nat => (i : Int)
def hel (cs : List (Bool × Int)) (ws : List Int) : List Int := match fewO cs ws with
  | none => []
  | some b => helN cs ws b cs.length
theorem helN_succ (cs : List (Bool × Int)) (ws : List Int) (b : Int) (n : Nat) : helN cs ws b (n + 1) = helN cs ws b n ++ (if helQ cs ws b n = true then [(n : Int)] else []) := by
  unfold helN
  rw [List.range_succ, List.filter_append, List.map_append]
  cases e : helQ cs ws b n with
  | true => rw [List.filter_cons, if_pos e] <;> rfl
  | false => rw [List.filter_cons, if_neg (by rw [e]; exact Bool.false_ne_true)] <;> rfl
theorem helN_len (cs : List (Bool × Int)) (ws : List Int) (b : Int) (n : Nat) : (helN cs ws b n).length ≤ n := by
  unfold helN
  rw [List.length_map]
  exact Nat.le_trans (List.length_filter_le _ _) (Nat.le_of_eq List.length_range)
theorem torn_set {cs : List (Bool × Int)} {ws : List Int} {i : Nat} {c : Bool × Int} (h : i < cs.length) (o : ∀ z ∈ ws, 0 ≤ z ∧ z < (cs.length : Int)) (n : ¬ (i : Int) ∈ ws) (t : torn cs ws = none) : torn (cs.set i c) ws = none := by
  rw [torn_iff] at t ⊢
  intro x hx
  rw [getD_set h]
  split
  · rename_i e
    have := o x hx
    exact (n (by rw [e, Int.toNat_of_nonneg this.1]; exact hx)).elim
  · exact t x hx
theorem hel_b {cs : List (Bool × Int)} {ws : List Int} : (∀ z ∈ hel cs ws, 0 ≤ z ∧ z ≤ (cs.length : Int)) ∧ (hel cs ws).length ≤ cs.length := by
  unfold hel
  split
  · exact ⟨fun z hz => (by cases hz), Nat.zero_le _⟩
  · refine ⟨fun z hz => ?_, helN_len _ _ _ _⟩
    obtain ⟨i, hi, rfl⟩ := List.mem_map.mp hz
    have := List.mem_range.mp (List.mem_filter.mp hi).1
    omega
theorem hel_zero {cs : List (Bool × Int)} {ws : List Int} (h : fewO cs ws = some 0) : hel cs ws = [] := by
  unfold hel
  rw [h]
  show ((List.range cs.length).filter (helQ cs ws 0)).map _ = []
  rw [List.filter_eq_nil_iff.mpr]
  · rfl
  · intro i _ c
    unfold helQ at c
    rw [Bool.and_eq_true, decide_eq_true_eq] at c
    have := gw_nonneg (bndL (cs.set i (true, (cs.getD i (false, 0)).2)) ws)
    omega
theorem hel_nil {cs : List (Bool × Int)} (h : ∀ c ∈ cs, 0 ≤ c.2) : hel cs [] = [] := by
  refine hel_zero ?_
  show some (gw (bndL cs [])) = _
  rw [gw_nil h]
theorem WOk.sub {cs : List (Bool × Int)} {ws vs : List Int} (h : WOk cs ws) (s : vs.Sublist ws) : WOk cs vs := ⟨fun z hz => h.b z (s.mem hz), h.r.sublist s, fun z hz => h.w z (s.mem hz)⟩
theorem cut_sub (ws : List Int) (x y : Option Int) : ∃ vs : List Int, cutV (ws.map V.int) x y = vs.map V.int ∧ vs.Sublist ws := by
  unfold cutV
  refine ⟨(ws.drop (HT.sIx (ws.map V.int).length 0 x)).take (HT.sIx (ws.map V.int).length (ws.map V.int).length y - HT.sIx (ws.map V.int).length 0 x), ?_, (List.take_sublist _ _).trans (List.drop_sublist _ _)⟩
  rw [List.map_take, List.map_drop]
theorem Wish.aside {H : Hp} {a y b : Addr} {xs ys : List V} {rs : List Addr} {cs : List (Bool × Int)} {ws : List Int} (h : Wish H a y rs cs ws) (na : b ≠ a) (ny : b ≠ y) (eb : H b = some (.lst ys)) : Wish (upd H b (.lst xs)) a y rs cs ws :=
  ⟨h.c.aside na eb, by rw [upd_ne ny.symm]; exact h.w, h.l, h.lw, h.b⟩
theorem Wish.sr {HA HB : Hp} {p a y : Addr} {na nb : Nat} {rs : List Addr} {cs : List (Bool × Int)} {ws : List Int} (w : Wish HA a y rs cs ws) (s : Sr p na nb HA HB) : Wish HB a y rs cs ws := ⟨⟨s.lst w.c.at_, w.c.len, fun j c e => by
  obtain ⟨r, x1, x2⟩ := w.c.get j c e
  exact ⟨r, x1, s.tup x2⟩⟩, s.lst w.w, w.l, w.lw, w.b⟩
/-- one cell is stored anew in its place -/
theorem Cells.store {H : Hp} {S t : Addr} {rs : List Addr} {cs : List (Bool × Int)} (h : Cells H S rs cs) {i : Nat} (hi : i < cs.length) {c : Bool × Int} (nt : t ≠ S) (et : H t = some (.tup [.bl c.1, .int c.2])) : Cells (upd H S (.lst ((rs.map V.ref).set i (.ref t)))) S (rs.set i t) (cs.set i c) := by
  refine ⟨by rw [upd_same, List.map_set], by rw [List.length_set, List.length_set, h.len], fun j d e => ?_⟩
  by_cases hjj : i = j
  · subst hjj
    rw [List.getElem?_set_self hi] at e
    cases e
    exact ⟨t, List.getElem?_set_self (by rw [h.len]; exact hi), by rw [upd_ne nt]; exact et⟩
  · rw [List.getElem?_set_ne hjj] at e
    obtain ⟨r, x1, x2⟩ := h.get j d e
    exact ⟨r, by rw [List.getElem?_set_ne hjj]; exact x1, by rw [upd_ne (fun z => by rw [z, h.at_] at x2; cases x2)]; exact x2⟩
/-- a cell's passes told anew -/
theorem wok_left {cs : List (Bool × Int)} {ws : List Int} {i : Nat} {l : Int} (h : i < cs.length) (o : WOk cs ws) : WOk (cs.set i ((cs.getD i (false, 0)).1, l)) ws := ⟨fun x hx => by rw [List.length_set]; exact o.b x hx, o.r, fun x hx => by
  rw [getD_set h]
  split
  · rename_i e
    rw [e]
    exact o.w x hx
  · exact o.w x hx⟩
end Xi

namespace Xi
open PySem PySem.Spec PyProof.Rows L2
/-! ## strips behind draws -/
theorem Cells.sr {HA HB : Hp} {p a : Addr} {na nb : Nat} {rs : List Addr} {cs : List (Bool × Int)} (w : Cells HA a rs cs) (s : Sr p na nb HA HB) : Cells HB a rs cs := ⟨s.lst w.at_, w.len, fun j c e => by
  obtain ⟨r, x1, x2⟩ := w.get j c e
  exact ⟨r, x1, s.tup x2⟩⟩
theorem getD_eq {α : Type} {l : List α} {i : Nat} {x d : α} (h : l[i]? = some x) : l.getD i d = x := by
  rw [List.getD_eq_getElem?_getD, h] <;> rfl
/-- how often each cell may be punched; so far told of the first wished ones -/
def mostN (cs : List (Bool × Int)) (ws : List Int) (j : Nat) : List Int := (List.range cs.length).map fun i => mostAt cs (ws.take j) i
def mostL (cs : List (Bool × Int)) (ws : List Int) : List Int := (List.range cs.length).map fun i => mostAt cs ws i
theorem mostN_all (cs : List (Bool × Int)) (ws : List Int) : mostN cs ws ws.length = mostL cs ws := by
  unfold mostN mostL
  rw [List.take_length]
theorem mostN_len (cs : List (Bool × Int)) (ws : List Int) (j : Nat) : (mostN cs ws j).length = cs.length := by
  unfold mostN
  rw [List.length_map, List.length_range]
theorem mostL_len (cs : List (Bool × Int)) (ws : List Int) : (mostL cs ws).length = cs.length := by
  unfold mostL
  rw [List.length_map, List.length_range]
theorem mostN_succ {cs : List (Bool × Int)} {ws : List Int} {j m : Nat} (hm : m < cs.length) (e : ws[j]? = some (m : Int)) : (mostN cs ws j).set m (cs.getD m (false, 0)).2 = mostN cs ws (j + 1) := by
  unfold mostN
  refine List.ext_getElem? fun i => ?_
  have et : ws.take (j + 1) = ws.take j ++ [(m : Int)] := by rw [List.take_add_one, e] <;> rfl
  by_cases h : i < cs.length
  · by_cases c : m = i
    · subst c
      rw [List.getElem?_set_self (by rw [List.length_map, List.length_range]; exact h), List.getElem?_map, List.getElem?_range h]
      show some _ = some (mostAt cs (ws.take (j + 1)) m)
      unfold mostAt
      rw [if_pos (.inr (by rw [et]; exact List.mem_append_right _ List.mem_cons_self))]
    · rw [List.getElem?_set_ne c, List.getElem?_map, List.getElem?_map, List.getElem?_range h]
      show some (mostAt cs (ws.take j) i) = some (mostAt cs (ws.take (j + 1)) i)
      unfold mostAt
      rw [et]
      have q : ((i : Int) ∈ ws.take j ++ [(m : Int)]) ↔ ((i : Int) ∈ ws.take j) := by
        rw [List.mem_append, List.mem_singleton]
        exact ⟨fun q => q.resolve_right (fun q => c (by omega)), .inl⟩
      simp only [q]
  · rw [List.getElem?_eq_none (by rw [List.length_set, List.length_map, List.length_range]; omega), List.getElem?_eq_none (by rw [List.length_map, List.length_range]; omega)]
/-- what each cell counts for a parity; so far told of the first wished ones -/
def valN (cs : List (Bool × Int)) (ws : List Int) (p j : Nat) : List Int := (List.range cs.length).map fun i : Nat => if (i : Int) % 2 = (p : Int) then fewAt (ws.take j) i else -(mostAt cs ws i)
def valL (cs : List (Bool × Int)) (ws : List Int) (p : Nat) : List Int := (List.range cs.length).map fun i : Nat => val (bndL cs ws) p i
theorem valN_len (cs : List (Bool × Int)) (ws : List Int) (p j : Nat) : (valN cs ws p j).length = cs.length := by
  unfold valN
  rw [List.length_map, List.length_range]
theorem valL_len (cs : List (Bool × Int)) (ws : List Int) (p : Nat) : (valL cs ws p).length = cs.length := by
  unfold valL
  rw [List.length_map, List.length_range]
theorem valN_all (cs : List (Bool × Int)) (ws : List Int) (p : Nat) : valN cs ws p ws.length = valL cs ws p := by
  unfold valN valL
  rw [List.take_length]
  refine List.map_congr_left fun i hi => ?_
  unfold val
  rw [bndL_at (List.mem_range.mp hi)]
theorem valN_other {cs : List (Bool × Int)} {ws : List Int} {p j m : Nat} (e : ws[j]? = some (m : Int)) (hp : ¬ (m : Int) % 2 = (p : Int)) : valN cs ws p (j + 1) = valN cs ws p j := by
  unfold valN
  refine List.map_congr_left fun i hi => ?_
  have et : ws.take (j + 1) = ws.take j ++ [(m : Int)] := by rw [List.take_add_one, e] <;> rfl
  by_cases c : (i : Int) % 2 = (p : Int)
  · rw [if_pos c, if_pos c]
    unfold fewAt
    rw [et]
    have q : ((i : Int) ∈ ws.take j ++ [(m : Int)]) ↔ ((i : Int) ∈ ws.take j) := by
      rw [List.mem_append, List.mem_singleton]
      exact ⟨fun q => q.resolve_right (fun q => hp (by rw [← q]; exact c)), .inl⟩
    simp only [q]
  · rw [if_neg c, if_neg c]
theorem valN_get {cs : List (Bool × Int)} {ws : List Int} {p j m : Nat} (r : ws.Pairwise (· < ·)) (e : ws[j]? = some (m : Int)) (hm : m < cs.length) (hp : (m : Int) % 2 = (p : Int)) : (valN cs ws p j).getD m 0 = 0 := by
  unfold valN
  rw [List.getD_eq_getElem?_getD, List.getElem?_map, List.getElem?_range hm]
  show (if (m : Int) % 2 = (p : Int) then fewAt (ws.take j) m else _) = 0
  rw [if_pos hp]
  refine if_neg fun h => ?_
  obtain ⟨i, hi, ei⟩ := List.mem_iff_getElem.mp h
  rw [List.length_take] at hi
  rw [List.getElem_take] at ei
  obtain ⟨hj, ej⟩ := List.getElem?_eq_some_iff.mp e
  have := List.pairwise_iff_getElem.mp r i j (by omega) hj (by omega)
  rw [ei, ej] at this
  omega
theorem valN_succ {cs : List (Bool × Int)} {ws : List Int} {p j m : Nat} (hm : m < cs.length) (e : ws[j]? = some (m : Int)) (hp : (m : Int) % 2 = (p : Int)) : (valN cs ws p j).set m 1 = valN cs ws p (j + 1) := by
  unfold valN
  refine List.ext_getElem? fun i => ?_
  have et : ws.take (j + 1) = ws.take j ++ [(m : Int)] := by rw [List.take_add_one, e] <;> rfl
  by_cases h : i < cs.length
  · by_cases c : m = i
    · subst c
      rw [List.getElem?_set_self (by rw [List.length_map, List.length_range]; exact h), List.getElem?_map, List.getElem?_range h]
      show some (1 : Int) = some (if (m : Int) % 2 = (p : Int) then fewAt (ws.take (j + 1)) m else _)
      rw [if_pos hp]
      refine congrArg some (Eq.symm (if_pos ?_))
      rw [et]
      exact List.mem_append_right _ List.mem_cons_self
    · rw [List.getElem?_set_ne c, List.getElem?_map, List.getElem?_map, List.getElem?_range h]
      show some (if (i : Int) % 2 = (p : Int) then fewAt (ws.take j) i else _) = some (if (i : Int) % 2 = (p : Int) then fewAt (ws.take (j + 1)) i else _)
      unfold fewAt
      rw [et]
      have q : ((i : Int) ∈ ws.take j ++ [(m : Int)]) ↔ ((i : Int) ∈ ws.take j) := by
        rw [List.mem_append, List.mem_singleton]
        exact ⟨fun q => q.resolve_right (fun q => c (by omega)), .inl⟩
      simp only [q]
  · rw [List.getElem?_eq_none (by rw [List.length_set, List.length_map, List.length_range]; omega), List.getElem?_eq_none (by rw [List.length_map, List.length_range]; omega)]
/-- all wished cells without a pass -/
def tornL (cs : List (Bool × Int)) (ws : List Int) : List Int := ws.filter fun z => (cs.getD z.toNat (false, 0)).2 == 0
theorem torn_head (cs : List (Bool × Int)) (ws : List Int) : torn cs ws = (tornL cs ws).head? := by
  unfold torn tornL
  rw [List.head?_filter]
theorem torn_nil {cs : List (Bool × Int)} {ws : List Int} : torn cs ws = none ↔ tornL cs ws = [] := by
  rw [torn_head, List.head?_eq_none_iff]
theorem LLs.add {Hb H H0 : Hp} {D r : Addr} {rs : List Addr} {ls : List (List Int)} {l : List Int} (h : LLs Hb D H rs ls) (old : LLs Hb D H0 rs ls) (nr : H0 r = none) (hb : Hb r = none) (er : H r = some (.lst (l.map V.int))) : LLs Hb D (upd H D (.lst (rs.map V.ref ++ [.ref r]))) (rs ++ [r]) (ls ++ [l]) := by
  have rD : r ≠ D := (ne_of_none old.at_ nr).symm
  refine ⟨by rw [upd_same, List.map_append] <;> rfl, by rw [List.length_append, List.length_append, h.len] <;> rfl, ?_, fun j r' e => ?_⟩
  · refine List.nodup_append.mpr ⟨h.nd, by simp, fun y hy z hz => ?_⟩
    simp only [List.mem_singleton] at hz
    subst hz
    obtain ⟨j, hj⟩ := List.mem_iff_getElem?.mp hy
    obtain ⟨_, _, _, _, d⟩ := old.get j y hj
    exact ne_of_none d nr
  · by_cases hj : j < rs.length
    · rw [List.getElem?_append_left hj] at e
      obtain ⟨a, b, l', c, d⟩ := h.get j r' e
      refine ⟨a, b, l', by rw [List.getElem?_append_left (by rw [← h.len]; exact hj)]; exact c, ?_⟩
      rw [upd_ne b]
      exact d
    · have ej : j = rs.length := by
        have := (List.getElem?_eq_some_iff.mp e).1
        simp at this
        omega
      subst ej
      rw [List.getElem?_append_right (Nat.le_refl _), Nat.sub_self] at e
      cases (Option.some.inj e : r = r')
      refine ⟨hb, rD, l, by rw [h.len, List.getElem?_append_right (Nat.le_refl _), Nat.sub_self] <;> rfl, ?_⟩
      rw [upd_ne rD]
      exact er
end Xi
namespace Xi
open PySem PySem.Spec PyProof.Rows L2
theorem kadB_nonneg {f : Nat → Int} {b : Int} (h : 0 ≤ b) : ∀ n, 0 ≤ kadB f b n
  | 0 => h
  | n + 1 => by
    have := kadB_nonneg (f := f) h n
    show 0 ≤ if kadE f (n + 1) > kadB f b n then kadE f (n + 1) else kadB f b n
    split <;> omega
/-- one more end, in a list of all ends -/
theorem IsMax.kad {ns : List Int} {f : Nat → Int} {b h : Int} {n : Nat} (m : IsMax ns (kadB f b n)) (b0 : 0 ≤ b) (e : (if h > 0 then h else 0) = kadE f n) : IsMax (ns ++ [(if h > 0 then h else 0) + f n]) (kadB f b (n + 1)) ∧ (if (if h > 0 then h else 0) + f n > 0 then (if h > 0 then h else 0) + f n else 0) = kadE f (n + 1) := by
  rw [e]
  have g := kadB_nonneg (f := f) b0 n
  refine ⟨?_, rfl⟩
  have e2 : kadB f b (n + 1) = if kadE f n + f n > kadB f b n then kadE f n + f n else kadB f b n := by
    show (if (if kadE f n + f n > 0 then kadE f n + f n else 0) > kadB f b n then (if kadE f n + f n > 0 then kadE f n + f n else 0) else kadB f b n) = _
    by_cases c : kadE f n + f n > 0
    · rw [if_pos c]
    · rw [if_neg c, if_neg (by omega), if_neg (by omega)]
  rw [e2]
  constructor
  · split
    · exact List.mem_append_right _ List.mem_cons_self
    · exact List.mem_append_left _ m.mem
  · intro y hy
    rcases List.mem_append.mp hy with q | q
    · have := m.le y q
      split <;> omega
    · rw [List.mem_singleton.mp q]
      split <;> omega
end Xi
namespace Xi
open PySem PySem.Spec PyProof.Rows L2
/-- the sum of f from i to j -/
def wth (f : Nat → Int) (i j : Nat) : Int := pre f (j + 1) - pre f i
/-- of it, what lies ahead of n -/
def wsum (f : Nat → Int) (i j : Nat) : Nat → Int
  | 0 => 0
  | n + 1 => if i ≤ n ∧ n ≤ j then wsum f i j n + f n else wsum f i j n
theorem wsum_eq (f : Nat → Int) (i j : Nat) (ij : i ≤ j) : ∀ n, wsum f i j n = if n ≤ i then 0 else if n ≤ j + 1 then pre f n - pre f i else pre f (j + 1) - pre f i
  | 0 => by rw [if_pos (Nat.zero_le _)] <;> rfl
  | n + 1 => by
    show (if i ≤ n ∧ n ≤ j then wsum f i j n + f n else wsum f i j n) = _
    rw [wsum_eq f i j ij n]
    by_cases c1 : n < i
    · rw [if_neg (by omega), if_pos (by omega), if_pos (by omega)]
    · by_cases c2 : n ≤ j
      · rw [if_pos (by omega), if_neg (show ¬ n + 1 ≤ i by omega), if_pos (show n + 1 ≤ j + 1 by omega), pre_succ f n]
        by_cases c3 : n ≤ i
        · have e : n = i := by omega
          subst e
          rw [if_pos c3]
          omega
        · rw [if_neg c3, if_pos (by omega)]
          omega
      · rw [if_neg (by omega), if_neg (by omega), if_neg (show ¬ n + 1 ≤ i by omega), if_neg (show ¬ n + 1 ≤ j + 1 by omega)]
        by_cases c3 : n ≤ j + 1
        · have e : n = j + 1 := by omega
          subst e
          rw [if_pos c3]
        · rw [if_neg c3]
theorem wsum_all {f : Nat → Int} {i j n : Nat} (ij : i ≤ j) (jl : j < n) : wsum f i j n = wth f i j := by
  rw [wsum_eq f i j ij, if_neg (by omega)]
  unfold wth
  by_cases c : n ≤ j + 1
  · have e : n = j + 1 := by omega
    subst e
    rw [if_pos c]
  · rw [if_neg c]
end Xi
namespace Xi
open PySem PySem.Spec PyProof.Rows L2
def oD : Option Int → PyData
  | none => .none
  | some b => .int b
theorem dt_oV {H : Hp} : ∀ o : Option Int, Dt H (oV o) (oD o)
  | none => .non
  | some b => .int b
theorem dep_oD {n : Nat} : ∀ o : Option Int, dep n (oD o)
  | none => by unfold oD dep; trivial
  | some b => by unfold oD dep; trivial
theorem cells_small {cs : List (Bool × Int)} (h : ∀ c ∈ cs, 0 ≤ c.2 ∧ c.2 ≤ 99) : ∀ c ∈ cs, c.2.natAbs < 10 ^ 31 := fun c hc => by
  have := h c hc
  have e : (10 : Nat) ^ 31 = 10000000000000000000000000000000 := by decide
  omega
theorem ints_small {n : Nat} {zs : List Int} (h : ∀ z ∈ zs, 0 ≤ z ∧ z ≤ (n : Int)) (hn : n ≤ 1000) : ∀ z ∈ zs, z.natAbs < 10 ^ 31 := fun z hz => by
  have := h z hz
  have e : (10 : Nat) ^ 31 = 10000000000000000000000000000000 := by decide
  omega
theorem dep_list {n : Nat} {ds : List PyData} (h : ds.length ≤ 100000) (k : ∀ d ∈ ds, dep n d) : dep (n + 1) (.list ds) := ⟨h, k⟩
theorem dep_tup {n : Nat} {ds : List PyData} (h : ds.length ≤ 100000) (k : ∀ d ∈ ds, dep n d) : dep (n + 1) (.tuple ds) := ⟨h, k⟩
theorem dep_int {n : Nat} (i : Int) : dep n (.int i) := by
  unfold dep
  trivial
theorem dep_ints {n : Nat} {zs : List Int} (h : zs.length ≤ 100000) : dep (n + 1) (intsD zs) := dep_list (by rw [List.length_map]; exact h) fun d hd => by
  obtain ⟨z, _, rfl⟩ := List.mem_map.mp hd
  exact dep_int z
end Xi
namespace Xi
open PySem PySem.Spec PyProof.Rows L2
section
variable {X : Cx} {K : PySem.W.Frag}
/-- xs[i] op= .. -/
theorem get_list : PGet X (rIxL X.K) := by
  intro pins s σ H x y v u Q I rx ry h
  obtain ⟨p, xs, i, z, rfl, rfl, hq, he, q⟩ := h
  cases rx
  obtain ⟨t, rfl⟩ := ry
  obtain ⟨its, r, pl, hz⟩ := I.list hq
  obtain ⟨j, h1, h2, h3, h4, h5⟩ := L2.atI_get he
  obtain ⟨w, ew, rw'⟩ := r.get h2
  have hl := r.length
  have hn := line63
  have fin : EP X pins σ Q w s := ⟨z, H, I, rw', q⟩
  by_cases h0 : 0 ≤ i
  · have hj : i.toNat = j := by
      rw [seqIndex_of h0 h5] at h1
      exact Option.some.inj h1
    exact wpAny_getItem_list pl.isList h0 (by omega) (by rw [hj]; simpa using ew) fin
  · have hj : (i + (its.toArray.size : Int)).toNat = j := by
      rw [seqIndex_neg (by omega) h4] at h1
      rw [List.size_toArray, ← hl]
      exact Option.some.inj h1
    exact wpAny_getItem_list_neg pl.isList (by omega) (by rw [List.size_toArray] <;> omega) (by omega) (by rw [hj]; simpa using ew) fin
theorem k_getL (e : X.K = K) : PGet X (rIxL K) := by
  subst e
  exact get_list
end
end Xi
namespace Xi
open PySem PySem.Spec PyProof.Rows L2
/-- a list of tuples -/
structure Tups (H : Hp) (q : Addr) (rs : List Addr) (ds : List (List V)) : Prop where
  at_ : H q = some (.lst (rs.map V.ref))
  len : rs.length = ds.length
  get : ∀ (j : Nat) (d : List V), ds[j]? = some d → ∃ r, rs[j]? = some r ∧ H r = some (.tup d)
section
variable {H H' : Hp} {q t a : Addr} {rs : List Addr} {ds : List (List V)}
theorem Tups.same (h : Tups H q rs ds) (s : Same H H') : Tups H' q rs ds := ⟨s _ _ h.at_, h.len, fun j c e => by
  obtain ⟨r, x, y⟩ := h.get j c e
  exact ⟨r, x, s _ _ y⟩⟩
theorem Tups.sr {p : Addr} {na nb : Nat} (h : Tups H q rs ds) (s : Sr p na nb H H') : Tups H' q rs ds := ⟨s.lst h.at_, h.len, fun j c e => by
  obtain ⟨r, x, y⟩ := h.get j c e
  exact ⟨r, x, s.tup y⟩⟩
theorem Tups.nil (e : H q = some (.lst [])) : Tups H q [] [] := ⟨e, rfl, fun j b e => by simp at e⟩
theorem Tups.ne (h : Tups H q rs ds) {j : Nat} {r : Addr} {d : List V} (_ : rs[j]? = some r) (e : H r = some (.tup d)) : r ≠ q := fun z => by
  rw [z, h.at_] at e
  cases e
theorem Tups.push (h : Tups H q rs ds) (nt : H t = none) (d : List V) : Tups (upd (upd H t (.tup d)) q (.lst (rs.map V.ref ++ [.ref t]))) q (rs ++ [t]) (ds ++ [d]) := by
  have tq : t ≠ q := (ne_of_none h.at_ nt).symm
  refine ⟨by rw [upd_same, List.map_append] <;> rfl, by rw [List.length_append, List.length_append, h.len] <;> rfl, fun j b e => ?_⟩
  by_cases hj : j < ds.length
  · rw [List.getElem?_append_left hj] at e
    obtain ⟨r, x1, x2⟩ := h.get j b e
    refine ⟨r, by rw [List.getElem?_append_left (by rw [h.len]; exact hj)]; exact x1, ?_⟩
    rw [upd_ne (h.ne x1 x2), upd_ne (ne_of_none x2 nt)]
    exact x2
  · have ej : j = ds.length := by
      have := (List.getElem?_eq_some_iff.mp e).1
      simp at this
      omega
    subst ej
    rw [List.getElem?_append_right (Nat.le_refl _), Nat.sub_self] at e
    cases (Option.some.inj e : d = b)
    exact ⟨t, by rw [← h.len, List.getElem?_append_right (Nat.le_refl _), Nat.sub_self] <;> rfl, by rw [upd_ne tq]; exact upd_same⟩
/-- another list is put behind it -/
theorem Tups.ext {q2 : Addr} {rs2 : List Addr} {ds2 : List (List V)} (h : Tups H q rs ds) (g : Tups H q2 rs2 ds2) : Tups (upd H q (.lst (rs.map V.ref ++ rs2.map V.ref))) q (rs ++ rs2) (ds ++ ds2) := by
  refine ⟨by rw [upd_same, List.map_append], by rw [List.length_append, List.length_append, h.len, g.len], fun j b e => ?_⟩
  have nq : ∀ {r : Addr}, H r = some (.tup b) → r ≠ q := fun e z => by
    rw [z, h.at_] at e
    cases e
  by_cases hj : j < ds.length
  · rw [List.getElem?_append_left hj] at e
    obtain ⟨r, x1, x2⟩ := h.get j b e
    exact ⟨r, by rw [List.getElem?_append_left (by rw [h.len]; exact hj)]; exact x1, by rw [upd_ne (nq x2)]; exact x2⟩
  · rw [List.getElem?_append_right (by omega)] at e
    obtain ⟨r, x1, x2⟩ := g.get _ b e
    exact ⟨r, by rw [List.getElem?_append_right (by rw [h.len]; omega), h.len]; exact x1, by rw [upd_ne (nq x2)]; exact x2⟩
theorem Tups.aside {xs ys : List V} {b : Addr} (h : Tups H q rs ds) (nb : b ≠ q) (eb : H b = some (.lst ys)) : Tups (upd H b (.lst xs)) q rs ds := ⟨by rw [upd_ne nb.symm]; exact h.at_, h.len, fun j c e => by
  obtain ⟨r, x1, x2⟩ := h.get j c e
  exact ⟨r, x1, by rw [upd_ne (fun z => by rw [z, eb] at x2; cases x2)]; exact x2⟩⟩
end
/-! ### stretches of the greatest worth -/
def tri (t : Nat × Nat × Nat) : List V := [.int (t.1 : Int), .int (t.2.1 : Int), .int (t.2.2 : Int)]
def triD (t : Nat × Nat × Nat) : PyData := .tuple [.int (t.1 : Int), .int (t.2.1 : Int), .int (t.2.2 : Int)]
/-- of the stretch from f to l the parities by which it is worth most -/
def stE (bs : List (Int × Int)) (f l : Nat) : List (Nat × Nat × Nat) := (([0, 1] : List Nat).filter fun p => wth (val bs p) f l == gw bs).map fun p => (f, l, p)
/-- of those that begin at f and end ahead of f + m -/
def stF (bs : List (Int × Int)) (f m : Nat) : List (Nat × Nat × Nat) := (List.range m).flatMap fun d => stE bs f (f + d)
/-- of those that begin ahead of k -/
def stN (bs : List (Int × Int)) (k : Nat) : List (Nat × Nat × Nat) := (List.range k).flatMap fun f => stF bs f (bs.length - f)
def stL (bs : List (Int × Int)) : List (Nat × Nat × Nat) := stN bs bs.length
theorem stF_succ (bs : List (Int × Int)) (f m : Nat) : stF bs f (m + 1) = stF bs f m ++ stE bs f (f + m) := by
  unfold stF
  rw [List.range_succ, List.flatMap_append, List.flatMap_singleton]
theorem stN_succ (bs : List (Int × Int)) (k : Nat) : stN bs (k + 1) = stN bs k ++ stF bs k (bs.length - k) := by
  unfold stN
  rw [List.range_succ, List.flatMap_append, List.flatMap_singleton]
theorem stE_len (bs : List (Int × Int)) (f l : Nat) : (stE bs f l).length ≤ 2 := by
  unfold stE
  rw [List.length_map]
  exact List.length_filter_le _ _
theorem stF_len (bs : List (Int × Int)) (f : Nat) : ∀ m, (stF bs f m).length ≤ 2 * m
  | 0 => Nat.le_refl _
  | m + 1 => by
    have := stF_len bs f m
    have := stE_len bs f (f + m)
    rw [stF_succ, List.length_append]
    omega
theorem stN_len (bs : List (Int × Int)) : ∀ k, (stN bs k).length ≤ 2 * bs.length * k
  | 0 => Nat.le_refl _
  | k + 1 => by
    have := stN_len bs k
    have := stF_len bs k (bs.length - k)
    rw [stN_succ, List.length_append, Nat.mul_succ]
    omega
theorem head_fm {α : Type} {g : Nat → List α} {x : α} {r : List α} {k : Nat} : ∀ {n : Nat}, k < n → (∀ i, i < k → g i = []) → g k = x :: r → ((List.range n).flatMap g).head? = some x
  | n + 1, h, a, b => by
    rw [List.range_succ, List.flatMap_append, List.flatMap_singleton]
    rcases Nat.lt_or_ge k n with c | c
    · rw [List.head?_append, head_fm c a b]
      rfl
    · have e : k = n := by omega
      subst e
      rw [show (List.range k).flatMap g = [] from List.flatMap_eq_nil_iff.mpr fun i hi => a i (List.mem_range.mp hi), List.nil_append, b]
      rfl
theorem fm_nil {α : Type} {g : Nat → List α} {n : Nat} (h : (List.range n).flatMap g = []) : ∀ i, i < n → g i = [] := fun i hi => List.flatMap_eq_nil_iff.mp h i (List.mem_range.mpr hi)
/-- the first of all -/
theorem st_head {bs : List (Int × Int)} {f d : Nat} {t : Nat × Nat × Nat} {r : List (Nat × Nat × Nat)} (hf : f + d < bs.length) (h1 : stN bs f = []) (h2 : stF bs f d = []) (h3 : stE bs f (f + d) = t :: r) : (stL bs).head? = some t := by
  have e : (stF bs f (bs.length - f)).head? = some t := head_fm (by omega) (fm_nil h2) h3
  obtain ⟨r', e'⟩ : ∃ r', stF bs f (bs.length - f) = t :: r' := by
    cases q : stF bs f (bs.length - f) with
    | nil => rw [q] at e; cases e
    | cons y r' =>
      rw [q] at e
      cases e
      exact ⟨r', rfl⟩
  exact head_fm (by omega) (fm_nil h1) e'
/-- there is one -/
theorem stL_some {bs : List (Int × Int)} (h : 0 < gw bs) : stL bs ≠ [] := fun e => by
  rcases (gw_top bs).mem with z | ⟨p, i, j, hp, hij, hj, e2⟩
  · omega
  · have h1 := fm_nil e i (by omega)
    have h2 := fm_nil h1 (j - 1 - i) (by omega)
    have ej : i + (j - 1 - i) = j - 1 := by omega
    rw [ej] at h2
    have w : wth (val bs p) i (j - 1) = gw bs := by
      unfold wth
      rw [show j - 1 + 1 = j by omega, e2]
    have m : p ∈ ([0, 1] : List Nat).filter fun p => wth (val bs p) i (j - 1) == gw bs := by
      rw [List.mem_filter]
      refine ⟨?_, by rw [w]; exact beq_self_eq_true _⟩
      have : p = 0 ∨ p = 1 := by omega
      rcases this with rfl | rfl <;> simp
    unfold stE at h2
    rw [List.map_eq_nil_iff] at h2
    rw [h2] at m
    cases m
theorem stE_zero {bs : List (Int × Int)} {f l : Nat} (h : wth (val bs 0) f l = gw bs) : ∃ r, stE bs f l = (f, l, 0) :: r := by
  unfold stE
  rw [List.filter_cons, if_pos (by rw [h]; exact beq_self_eq_true _)]
  exact ⟨_, rfl⟩
theorem stE_one {bs : List (Int × Int)} {f l : Nat} (h0 : wth (val bs 0) f l ≠ gw bs) (h : wth (val bs 1) f l = gw bs) : ∃ r, stE bs f l = (f, l, 1) :: r := by
  unfold stE
  rw [List.filter_cons, if_neg (by rw [beq_eq_false_iff_ne.mpr h0]; exact Bool.false_ne_true), List.filter_cons, if_pos (by rw [h]; exact beq_self_eq_true _)]
  exact ⟨_, rfl⟩
theorem stE_none {bs : List (Int × Int)} {f l : Nat} (h0 : wth (val bs 0) f l ≠ gw bs) (h : wth (val bs 1) f l ≠ gw bs) : stE bs f l = [] := by
  unfold stE
  rw [List.filter_cons, if_neg (by rw [beq_eq_false_iff_ne.mpr h0]; exact Bool.false_ne_true), List.filter_cons, if_neg (by rw [beq_eq_false_iff_ne.mpr h]; exact Bool.false_ne_true)]
  rfl
/-- what tight tells -/
def tightD (cs : List (Bool × Int)) (ws : List Int) : PyData := if ws = [] then .none else match torn cs ws with
  | some z => .int z
  | none => match (stL (bndL cs ws)).head? with
    | some t => triD t
    | none => .none
end Xi
namespace Xi
open PySem PySem.Spec PyProof.Rows L2
theorem eqV_int (y z : Int) : eqV (.int y) (.int z) = decide (y = z) := by
  by_cases c : y = z
  · subst c
    simp [eqV]
  · rw [decide_eq_false c]
    simp [eqV, c]
theorem flat_ints (ws : List Int) : (ws.map V.int).all flatV = true := by
  rw [List.all_eq_true]
  intro v hv
  obtain ⟨z, _, rfl⟩ := List.mem_map.mp hv
  rfl
end Xi

namespace Xi
open PySem PySem.Spec PyProof.Rows L2
/-! ## plans as walks -/
/-- Kadane from behind: the greatest sum of f that begins at n - d, or nought -/
def kb (f : Nat → Int) (n : Nat) : Nat → Int
  | 0 => 0
  | d + 1 => if kb f n d + f (n - 1 - d) > 0 then kb f n d + f (n - 1 - d) else 0
theorem kb_nonneg (f : Nat → Int) (n : Nat) : ∀ d, 0 ≤ kb f n d
  | 0 => Int.le_refl 0
  | d + 1 => by
    unfold kb
    split <;> omega
theorem kb_mem (f : Nat → Int) (n : Nat) : ∀ {d : Nat}, d ≤ n → kb f n d = 0 ∨ ∃ j, n - d < j ∧ j ≤ n ∧ kb f n d = pre f j - pre f (n - d)
  | 0, _ => .inl rfl
  | d + 1, h => by
    unfold kb
    split
    · refine .inr ?_
      have e : n - 1 - d = n - (d + 1) := by omega
      have e2 : n - d = n - (d + 1) + 1 := by omega
      rcases kb_mem f n (d := d) (by omega) with z | ⟨j, h1, h2, z⟩
      · refine ⟨n - d, by omega, by omega, ?_⟩
        rw [z, e, e2, pre_succ]
        omega
      · refine ⟨j, by omega, h2, ?_⟩
        rw [z, e, e2, pre_succ]
        omega
    · exact .inl rfl
/-- how often at least, at most -/
def Fw (bs : List (Int × Int)) (k : Nat) : Int := (bs.getD k (0, 0)).1
def Ms (bs : List (Int × Int)) (k : Nat) : Int := (bs.getD k (0, 0)).2
/-- no cell is punched more at least than at most -/
def Fit (bs : List (Int × Int)) : Prop := ∀ k, k < bs.length → 0 ≤ Fw bs k ∧ Fw bs k ≤ Ms bs k
theorem val_even {bs : List (Int × Int)} {k : Nat} (h : k % 2 = 0) : val bs 0 k = Fw bs k ∧ val bs 1 k = -(Ms bs k) := by
  unfold val Fw Ms
  rw [if_pos (show (k : Int) % 2 = ((0 : Nat) : Int) by omega), if_neg (show ¬ (k : Int) % 2 = ((1 : Nat) : Int) by omega)]
  exact ⟨rfl, rfl⟩
theorem val_odd {bs : List (Int × Int)} {k : Nat} (h : k % 2 = 1) : val bs 1 k = Fw bs k ∧ val bs 0 k = -(Ms bs k) := by
  unfold val Fw Ms
  rw [if_pos (show (k : Int) % 2 = ((1 : Nat) : Int) by omega), if_neg (show ¬ (k : Int) % 2 = ((0 : Nat) : Int) by omega)]
  exact ⟨rfl, rfl⟩
theorem pre_add (f g : Nat → Int) : ∀ n, pre (fun k => f k + g k) n = pre f n + pre g n
  | 0 => rfl
  | n + 1 => by rw [pre_succ, pre_succ, pre_succ, pre_add f g n]; omega
theorem both_le {bs : List (Int × Int)} (h : Fit bs) {i j : Nat} (ij : i ≤ j) (jn : j ≤ bs.length) : (pre (val bs 0) j - pre (val bs 0) i) + (pre (val bs 1) j - pre (val bs 1) i) ≤ 0 := by
  have m := pre_mono (f := fun k => val bs 0 k + val bs 1 k) ij fun k hk => by
    have := h k (by omega)
    have q : k % 2 = 0 ∨ k % 2 = 1 := by omega
    rcases q with q | q
    · rw [(val_even q).1, (val_even q).2]
      omega
    · rw [(val_odd q).1, (val_odd q).2]
      omega
  rw [pre_add, pre_add] at m
  omega
/-- both ends of what can go on leave room -/
theorem kb_sum {bs : List (Int × Int)} (h : Fit bs) {d : Nat} (hd : d ≤ bs.length) : kb (val bs 1) bs.length d + kb (val bs 0) bs.length d ≤ gw bs := by
  have g0 := gw_nonneg bs
  have top : ∀ p i j, p < 2 → i ≤ j → j ≤ bs.length → pre (val bs p) j - pre (val bs p) i ≤ gw bs := fun p i j hp hij hj => by
    rcases Nat.lt_or_ge i j with c | c
    · exact (gw_top bs).le _ (.inr ⟨p, i, j, hp, c, hj, rfl⟩)
    · have e : i = j := by omega
      subst e
      omega
  rcases kb_mem (val bs 1) bs.length hd with z1 | ⟨j1, a1, b1, z1⟩
  · rcases kb_mem (val bs 0) bs.length hd with z0 | ⟨j0, a0, b0, z0⟩
    · omega
    · have := top 0 (bs.length - d) j0 (by decide) (by omega) b0
      omega
  · rcases kb_mem (val bs 0) bs.length hd with z0 | ⟨j0, a0, b0, z0⟩
    · have := top 1 (bs.length - d) j1 (by decide) (by omega) b1
      omega
    · rcases Nat.le_total j0 j1 with c | c
      · have e1 := both_le h (i := bs.length - d) (j := j0) (by omega) b0
        have e2 := top 1 j0 j1 (by decide) c b1
        omega
      · have e1 := both_le h (i := bs.length - d) (j := j1) (by omega) b1
        have e2 := top 0 j1 j0 (by decide) c b0
        omega
/-- from behind: the least and the greatest stand from which the walk can go on -/
def rg (bs : List (Int × Int)) (m : Int) : Nat → Int × Int
  | 0 => (0, m)
  | d + 1 => if (bs.length - 1 - d) % 2 = 0 then (if (rg bs m d).1 - Ms bs (bs.length - 1 - d) > 0 then (rg bs m d).1 - Ms bs (bs.length - 1 - d) else 0, (rg bs m d).2 - Fw bs (bs.length - 1 - d))
    else ((rg bs m d).1 + Fw bs (bs.length - 1 - d), if (rg bs m d).2 + Ms bs (bs.length - 1 - d) < m then (rg bs m d).2 + Ms bs (bs.length - 1 - d) else m)
theorem rg_succ (bs : List (Int × Int)) (m : Int) (d : Nat) : rg bs m (d + 1) = if (bs.length - 1 - d) % 2 = 0 then (if (rg bs m d).1 - Ms bs (bs.length - 1 - d) > 0 then (rg bs m d).1 - Ms bs (bs.length - 1 - d) else 0, (rg bs m d).2 - Fw bs (bs.length - 1 - d))
    else ((rg bs m d).1 + Fw bs (bs.length - 1 - d), if (rg bs m d).2 + Ms bs (bs.length - 1 - d) < m then (rg bs m d).2 + Ms bs (bs.length - 1 - d) else m) := rfl
theorem kb_succ (f : Nat → Int) (n d : Nat) : kb f n (d + 1) = if kb f n d + f (n - 1 - d) > 0 then kb f n d + f (n - 1 - d) else 0 := rfl
theorem rg_kb {bs : List (Int × Int)} (h : Fit bs) (m : Int) : ∀ {d : Nat}, d ≤ bs.length → rg bs m d = (kb (val bs 1) bs.length d, m - kb (val bs 0) bs.length d)
  | 0, _ => by
    show ((0 : Int), m) = (0, m - 0)
    rw [Int.sub_zero]
  | d + 1, hd => by
    have ih := rg_kb h m (d := d) (by omega)
    have n1 := kb_nonneg (val bs 1) bs.length d
    have n0 := kb_nonneg (val bs 0) bs.length d
    have f := h (bs.length - 1 - d) (by omega)
    rw [rg_succ, kb_succ, kb_succ, ih]
    have q : (bs.length - 1 - d) % 2 = 0 ∨ (bs.length - 1 - d) % 2 = 1 := by omega
    have two : ∀ {a b c e : Int}, a = c → b = e → (a, b) = (c, e) := fun h1 h2 => by rw [h1, h2]
    rcases q with q | q
    · rw [if_pos q, (val_even q).1, (val_even q).2]
      generalize kb (val bs 1) bs.length d = x at *
      generalize kb (val bs 0) bs.length d = y at *
      generalize Fw bs (bs.length - 1 - d) = u at *
      generalize Ms bs (bs.length - 1 - d) = v at *
      refine two ?_ ?_
      · show (if x - v > 0 then x - v else 0) = _
        split <;> split <;> omega
      · show m - y - u = _
        split <;> omega
    · rw [if_neg (by omega), (val_odd q).1, (val_odd q).2]
      generalize kb (val bs 1) bs.length d = x at *
      generalize kb (val bs 0) bs.length d = y at *
      generalize Fw bs (bs.length - 1 - d) = u at *
      generalize Ms bs (bs.length - 1 - d) = v at *
      refine two ?_ ?_
      · show x + u = _
        split <;> omega
      · show (if m - y + v < m then m - y + v else m) = _
        split <;> split <;> omega
def lo (bs : List (Int × Int)) (m : Int) (i : Nat) : Int := (rg bs m (bs.length - i)).1
def hi (bs : List (Int × Int)) (m : Int) (i : Nat) : Int := (rg bs m (bs.length - i)).2
/-- there is room at each cell -/
theorem room {bs : List (Int × Int)} (h : Fit bs) {m : Int} (hm : gw bs ≤ m) (i : Nat) : 0 ≤ lo bs m i ∧ lo bs m i ≤ hi bs m i ∧ hi bs m i ≤ m := by
  unfold lo hi
  rw [rg_kb h m (by omega)]
  have a := kb_nonneg (val bs 1) bs.length (bs.length - i)
  have b := kb_nonneg (val bs 0) bs.length (bs.length - i)
  have c := kb_sum h (d := bs.length - i) (by omega)
  refine ⟨a, ?_, ?_⟩
  · show kb _ _ _ ≤ m - kb _ _ _
    omega
  · show m - kb _ _ _ ≤ m
    omega
theorem lo_hi {bs : List (Int × Int)} {m : Int} {i : Nat} (h : i < bs.length) : (i % 2 = 0 → lo bs m i = (if lo bs m (i + 1) - Ms bs i > 0 then lo bs m (i + 1) - Ms bs i else 0) ∧ hi bs m i = hi bs m (i + 1) - Fw bs i) ∧
    (i % 2 = 1 → lo bs m i = lo bs m (i + 1) + Fw bs i ∧ hi bs m i = (if hi bs m (i + 1) + Ms bs i < m then hi bs m (i + 1) + Ms bs i else m)) := by
  have e : bs.length - i = (bs.length - (i + 1)) + 1 := by omega
  have e2 : bs.length - 1 - (bs.length - (i + 1)) = i := by omega
  have s := rg_succ bs m (bs.length - (i + 1))
  rw [e2] at s
  unfold lo hi
  rw [e, s]
  constructor
  · intro q
    rw [if_pos q]
    exact ⟨rfl, rfl⟩
  · intro q
    rw [if_neg (show ¬ i % 2 = 0 by omega)]
    exact ⟨rfl, rfl⟩
/-- how often the walk punches cell i from stand s -/
def tmA (bs : List (Int × Int)) (m : Int) (i : Nat) (s : Int) : Int := if i % 2 = 0 then (if lo bs m (i + 1) - s > Fw bs i then lo bs m (i + 1) - s else Fw bs i) else (if s - hi bs m (i + 1) > Fw bs i then s - hi bs m (i + 1) else Fw bs i)
def st (bs : List (Int × Int)) (m : Int) : Nat → Int
  | 0 => lo bs m 0
  | i + 1 => if i % 2 = 0 then st bs m i + tmA bs m i (st bs m i) else st bs m i - tmA bs m i (st bs m i)
def tm (bs : List (Int × Int)) (m : Int) (i : Nat) : Int := tmA bs m i (st bs m i)
def tmL (bs : List (Int × Int)) (m : Int) (n : Nat) : List Int := (List.range n).map (tm bs m)
theorem st_in {bs : List (Int × Int)} (h : Fit bs) {m : Int} (hm : gw bs ≤ m) : ∀ {i : Nat}, i ≤ bs.length → lo bs m i ≤ st bs m i ∧ st bs m i ≤ hi bs m i
  | 0, _ => by
    have := room h hm 0
    exact ⟨Int.le_refl _, this.2.1⟩
  | i + 1, hi' => by
    have ih := st_in h hm (i := i) (by omega)
    have r := room h hm (i + 1)
    have f := h i (by omega)
    have l := lo_hi (bs := bs) (m := m) (i := i) (by omega)
    show lo bs m (i + 1) ≤ (if _ then _ else _) ∧ (if _ then _ else _) ≤ _
    unfold tmA
    have q : i % 2 = 0 ∨ i % 2 = 1 := by omega
    rcases q with q | q
    · obtain ⟨l1, l2⟩ := l.1 q
      rw [if_pos q, if_pos q]
      split <;> omega
    · obtain ⟨l1, l2⟩ := l.2 q
      rw [if_neg (by omega), if_neg (by omega)]
      split <;> omega
/-- each cell as often as it may be -/
theorem tm_in {bs : List (Int × Int)} (h : Fit bs) {m : Int} (hm : gw bs ≤ m) {i : Nat} (hi' : i < bs.length) : Fw bs i ≤ tm bs m i ∧ tm bs m i ≤ Ms bs i := by
  have ih := st_in h hm (i := i) (by omega)
  have r := room h hm (i + 1)
  have f := h i hi'
  have l := lo_hi (bs := bs) (m := m) (i := i) hi'
  unfold tm tmA
  have q : i % 2 = 0 ∨ i % 2 = 1 := by omega
  rcases q with q | q
  · obtain ⟨l1, l2⟩ := l.1 q
    rw [if_pos q]
    rw [l1] at ih
    split at ih <;> split <;> omega
  · obtain ⟨l1, l2⟩ := l.2 q
    rw [if_neg (by omega)]
    rw [l2] at ih
    split at ih <;> split <;> omega
theorem st_room {bs : List (Int × Int)} (h : Fit bs) {m : Int} (hm : gw bs ≤ m) {i : Nat} (hi' : i ≤ bs.length) : 0 ≤ st bs m i ∧ st bs m i ≤ m := by
  have := st_in h hm hi'
  have := room h hm i
  omega
end Xi
namespace Xi
open PySem PySem.Spec PyProof.Rows L2
theorem Fw_bnd {cs : List (Bool × Int)} {ws : List Int} {k : Nat} (h : k < cs.length) : Fw (bndL cs ws) k = fewAt ws k ∧ Ms (bndL cs ws) k = mostAt cs ws k := by
  unfold Fw Ms
  rw [bndL_at h]
  exact ⟨rfl, rfl⟩
/-- where no wished cell is without a pass there is room -/
theorem fit_bnd {cs : List (Bool × Int)} {ws : List Int} (h : ∀ c ∈ cs, 0 ≤ c.2) (t : torn cs ws = none) : Fit (bndL cs ws) := fun k hk => by
  rw [bndL_len] at hk
  rw [(Fw_bnd hk).1, (Fw_bnd hk).2]
  have l0 : 0 ≤ (cs.getD k (false, 0)).2 := by
    rw [List.getD_eq_getElem?_getD, List.getElem?_eq_getElem hk]
    exact h _ (List.getElem_mem hk)
  unfold fewAt mostAt
  by_cases m : (k : Int) ∈ ws
  · have := (torn_iff.mp t) (k : Int) m
    rw [Int.toNat_natCast] at this
    rw [if_pos m, if_pos (.inr m)]
    omega
  · rw [if_neg m]
    split <;> omega
theorem fewAt_le (ws : List Int) (k : Nat) : fewAt ws k ≤ 1 := by
  unfold fewAt
  split <;> omega
theorem gw_le {cs : List (Bool × Int)} {ws : List Int} (h : Fit (bndL cs ws)) : gw (bndL cs ws) ≤ cs.length := by
  rcases (gw_top (bndL cs ws)).mem with z | ⟨p, i, j, hp, hij, hj, z⟩
  · omega
  · rw [bndL_len] at hj
    have : ∀ k, k < cs.length → val (bndL cs ws) p k ≤ 1 := fun k hk => by
      have f := h k (by rw [bndL_len]; exact hk)
      have e := Fw_bnd (ws := ws) hk
      have := fewAt_le ws k
      have q : k % 2 = 0 ∨ k % 2 = 1 := by omega
      have pp : p = 0 ∨ p = 1 := by omega
      rcases pp with rfl | rfl <;> rcases q with q | q
      · rw [(val_even q).1, e.1]; exact this
      · rw [(val_odd q).2]; omega
      · rw [(val_even q).2]; omega
      · rw [(val_odd q).1, e.1]; exact this
    have b : ∀ n, n ≤ cs.length → ∀ i, i ≤ n → pre (val (bndL cs ws) p) n - pre (val (bndL cs ws) p) i ≤ n - i := by
      intro n
      induction n with
      | zero =>
        intro _ i hi
        have e : i = 0 := by omega
        subst e
        omega
      | succ n ih =>
        intro hn i hi
        rcases Nat.lt_or_ge i (n + 1) with c | c
        · have := ih (by omega) i (by omega)
          have := this
          have v := this
          have u := (‹∀ k, k < cs.length → val (bndL cs ws) p k ≤ 1›) n (by omega)
          rw [pre_succ]
          omega
        · have e : i = n + 1 := by omega
          subst e
          omega
    have := b j hj i (by omega)
    omega
theorem Bnds.aside {H : Hp} {q b : Addr} {xs ys : List V} {rs : List Addr} {bs : List (Int × Int)} (h : Bnds H q rs bs) (nb : b ≠ q) (eb : H b = some (.lst ys)) : Bnds (upd H b (.lst xs)) q rs bs := ⟨by rw [upd_ne nb.symm]; exact h.at_, h.len, fun j c e => by
  obtain ⟨r, x1, x2⟩ := h.get j c e
  exact ⟨r, x1, by rw [upd_ne (fun z => by rw [z, eb] at x2; cases x2)]; exact x2⟩⟩
theorem tmL_len (bs : List (Int × Int)) (m : Int) (n : Nat) : (tmL bs m n).length = n := by
  unfold tmL
  rw [List.length_map, List.length_range]
theorem tmL_succ (bs : List (Int × Int)) (m : Int) (n : Nat) : tmL bs m (n + 1) = tmL bs m n ++ [tm bs m n] := by
  unfold tmL
  rw [List.range_succ, List.map_append] <;> rfl
theorem tmL_at {bs : List (Int × Int)} {m : Int} {n i : Nat} (h : i < n) : (tmL bs m n)[i]? = some (tm bs m i) := by
  unfold tmL
  rw [List.getElem?_map, List.getElem?_range h] <;> rfl
end Xi
namespace Xi
open PySem PySem.Spec PyProof.Rows L2
/-- a list of lists -/
structure Lsts (H : Hp) (q : Addr) (rs : List Addr) (ds : List (List V)) : Prop where
  at_ : H q = some (.lst (rs.map V.ref))
  len : rs.length = ds.length
  get : ∀ (j : Nat) (d : List V), ds[j]? = some d → ∃ r, rs[j]? = some r ∧ r ≠ q ∧ H r = some (.lst d)
theorem Lsts.same {H H' : Hp} {q : Addr} {rs : List Addr} {ds : List (List V)} (h : Lsts H q rs ds) (s : Same H H') : Lsts H' q rs ds := ⟨s _ _ h.at_, h.len, fun j c e => by
  obtain ⟨r, x, n, y⟩ := h.get j c e
  exact ⟨r, x, n, s _ _ y⟩⟩
theorem Lsts.push {H : Hp} {q t : Addr} {rs : List Addr} {ds : List (List V)} {d : List V} (h : Lsts H q rs ds) (tq : t ≠ q) (et : H t = some (.lst d)) : Lsts (upd H q (.lst (rs.map V.ref ++ [.ref t]))) q (rs ++ [t]) (ds ++ [d]) := by
  refine ⟨by rw [upd_same, List.map_append] <;> rfl, by rw [List.length_append, List.length_append, h.len] <;> rfl, fun j b e => ?_⟩
  by_cases hj : j < ds.length
  · rw [List.getElem?_append_left hj] at e
    obtain ⟨r, x1, n1, x2⟩ := h.get j b e
    refine ⟨r, by rw [List.getElem?_append_left (by rw [h.len]; exact hj)]; exact x1, n1, ?_⟩
    rw [upd_ne n1]
    exact x2
  · have ej : j = ds.length := by
      have := (List.getElem?_eq_some_iff.mp e).1
      simp at this
      omega
    subst ej
    rw [List.getElem?_append_right (Nat.le_refl _), Nat.sub_self] at e
    cases (Option.some.inj e : d = b)
    exact ⟨t, by rw [← h.len, List.getElem?_append_right (Nat.le_refl _), Nat.sub_self] <;> rfl, tq, by rw [upd_ne tq]; exact et⟩
theorem inV_tt (bs : List Bool) : inV (.bl true) (bs.map V.bl) = bs.any id := by
  induction bs with
  | nil => rfl
  | cons b r ih =>
    show (eqV (.bl b) (.bl true) || inV (.bl true) (r.map V.bl)) = (b || r.any id)
    rw [ih]
    cases b <;> rfl
theorem flat_bls (bs : List Bool) : (bs.map V.bl).all flatV = true := by
  rw [List.all_eq_true]
  intro v hv
  obtain ⟨z, _, rfl⟩ := List.mem_map.mp hv
  rfl
theorem cut_mid {xs : List V} (a b : Nat) : cutV xs (some (a : Int)) (some (b : Int)) = (xs.drop a).take (b - a) := by
  unfold cutV
  rw [HT.sIx_nat, HT.sIx_nat]
  refine List.ext_getElem? fun i => ?_
  rw [List.getElem?_take, List.getElem?_take]
  by_cases h : i < b - a
  · rw [if_pos h]
    by_cases h2 : a + i < xs.length
    · rw [if_pos (by omega), List.getElem?_drop, List.getElem?_drop, Nat.min_eq_left (by omega)]
    · rw [show (xs.drop a)[i]? = none from List.getElem?_eq_none (by rw [List.length_drop]; omega)]
      split
      · exact List.getElem?_eq_none (by rw [List.length_drop]; omega)
      · rfl
  · rw [if_neg h, if_neg (by omega)]
/-- what of a row of truths lies between a and b -/
theorem any_mid {n a b : Nat} {f : Nat → Bool} : ((((List.range n).map f).drop a).take (b - a)).any id = true ↔ ∃ s, a ≤ s ∧ s < b ∧ s < n ∧ f s = true := by
  rw [List.any_eq_true]
  constructor
  · rintro ⟨x, hx, e⟩
    obtain ⟨i, hi⟩ := List.mem_iff_getElem?.mp hx
    rw [List.getElem?_take] at hi
    split at hi
    · rename_i h
      rw [List.getElem?_drop, List.getElem?_map] at hi
      have hn : a + i < n := by
        rcases Nat.lt_or_ge (a + i) n with c | c
        · exact c
        · rw [List.getElem?_eq_none (by rw [List.length_range]; exact c)] at hi
          cases hi
      rw [List.getElem?_range hn] at hi
      have hi := Option.some.inj hi
      exact ⟨a + i, by omega, by omega, hn, by rw [hi]; exact e⟩
    · cases hi
  · rintro ⟨s, h1, h2, h3, h4⟩
    refine ⟨true, List.mem_iff_getElem?.mpr ⟨s - a, ?_⟩, rfl⟩
    rw [List.getElem?_take, if_pos (by omega), List.getElem?_drop, List.getElem?_map, show a + (s - a) = s by omega, List.getElem?_range h3]
    exact congrArg some h4
/-- the walk can go on from stand s ahead of cell i -/
def onB (bs : List (Int × Int)) (m : Int) (i s : Nat) : Bool := decide (lo bs m i ≤ (s : Int)) && decide ((s : Int) ≤ hi bs m i)
theorem onB_iff {bs : List (Int × Int)} {m : Int} {i s : Nat} : onB bs m i s = true ↔ lo bs m i ≤ (s : Int) ∧ (s : Int) ≤ hi bs m i := by
  unfold onB
  rw [Bool.and_eq_true, decide_eq_true_eq, decide_eq_true_eq]
def onL (bs : List (Int × Int)) (m : Int) (i : Nat) : List Bool := (List.range (m.toNat + 1)).map (onB bs m i)
/-- at most so far -/
def far (bs : List (Int × Int)) (m : Int) (i : Nat) : Int := if m < Ms bs i then m else Ms bs i
theorem on_even {bs : List (Int × Int)} (h : Fit bs) {m : Int} (hm : gw bs ≤ m) {i s : Nat} (hi' : i < bs.length) (q : i % 2 = 0) (hs : (s : Int) ≤ m) :
    ((((onL bs m (i + 1)).drop (s + (Fw bs i).toNat)).take ((s + (far bs m i).toNat + 1) - (s + (Fw bs i).toNat))).any id) = onB bs m i s := by
  have r := room h hm (i + 1)
  have f := h i hi'
  obtain ⟨l1, l2⟩ := (lo_hi (bs := bs) (m := m) (i := i) hi').1 q
  have fr : far bs m i ≤ Ms bs i ∧ far bs m i ≤ m ∧ (far bs m i = m ∨ far bs m i = Ms bs i) := by
    unfold far
    split <;> omega
  rw [Bool.eq_iff_iff]
  unfold onL
  rw [any_mid, onB_iff, l1, l2]
  constructor
  · rintro ⟨t, a1, a2, a3, a4⟩
    rw [onB_iff] at a4
    split <;> omega
  · intro g
    refine ⟨(if lo bs m (i + 1) > (s : Int) + Fw bs i then lo bs m (i + 1) else (s : Int) + Fw bs i).toNat, ?_⟩
    rw [onB_iff]
    split at g <;> split <;> omega
theorem on_odd {bs : List (Int × Int)} (h : Fit bs) {m : Int} (hm : gw bs ≤ m) {i s : Nat} (hi' : i < bs.length) (q : i % 2 = 1) (hs : (s : Int) ≤ m) :
    ((((onL bs m (i + 1)).drop ((s : Int) - far bs m i).toNat).take (((s : Int) - Fw bs i + 1).toNat - ((s : Int) - far bs m i).toNat)).any id) = onB bs m i s := by
  have r := room h hm (i + 1)
  have f := h i hi'
  obtain ⟨l1, l2⟩ := (lo_hi (bs := bs) (m := m) (i := i) hi').2 q
  have fr : far bs m i ≤ Ms bs i ∧ far bs m i ≤ m ∧ (far bs m i = m ∨ far bs m i = Ms bs i) := by
    unfold far
    split <;> omega
  rw [Bool.eq_iff_iff]
  unfold onL
  rw [any_mid, onB_iff, l1, l2]
  constructor
  · rintro ⟨t, a1, a2, a3, a4⟩
    rw [onB_iff] at a4
    split <;> omega
  · intro g
    refine ⟨(if hi bs m (i + 1) < (s : Int) - Fw bs i then hi bs m (i + 1) else (s : Int) - Fw bs i).toNat, ?_⟩
    rw [onB_iff]
    split at g <;> split <;> omega
end Xi
namespace Xi
open PySem PySem.Spec PyProof.Rows L2
theorem onL_len (bs : List (Int × Int)) (m : Int) (i : Nat) : (onL bs m i).length = m.toNat + 1 := by
  unfold onL
  rw [List.length_map, List.length_range]
theorem onL_last {bs : List (Int × Int)} {m : Int} (m0 : 0 ≤ m) : onL bs m bs.length = List.replicate (m.toNat + 1) true := by
  unfold onL
  refine List.ext_getElem? fun s => ?_
  rw [List.getElem?_map, List.getElem?_replicate]
  by_cases h : s < m.toNat + 1
  · rw [List.getElem?_range h, if_pos h]
    refine congrArg some (onB_iff.mpr ?_)
    unfold lo hi
    rw [Nat.sub_self]
    show (0 : Int) ≤ s ∧ (s : Int) ≤ m
    omega
  · rw [if_neg h, List.getElem?_eq_none (by rw [List.length_range]; omega)]
    rfl
theorem onL_at {bs : List (Int × Int)} {m : Int} {i s : Nat} (h : s < m.toNat + 1) : (onL bs m i)[s]? = some (onB bs m i s) := by
  unfold onL
  rw [List.getElem?_map, List.getElem?_range h] <;> rfl
theorem atI_last {xs : List V} {v : V} (h : xs[xs.length - 1]? = some v) : atI xs (-1) = some v := by
  have hl : xs.length - 1 < xs.length := (List.getElem?_eq_some_iff.mp h).1
  unfold atI
  have e : ixN xs.length (-1) = some (xs.length - 1) := by
    unfold ixN
    rw [if_neg (by decide), if_pos (by omega)]
    exact congrArg some (by omega)
  rw [e]
  exact h
theorem mx0 (x : Int) : (if x > 0 then x else 0) = ((x.toNat : Nat) : Int) := by
  split <;> omega
end Xi
namespace Xi
open PySem PySem.Spec PyProof.Rows L2
/-- the law's steps from stand st i on -/
def ltw (bs : List (Int × Int)) (m : Int) (i : Nat) (k : Int) : Int := if i % 2 = 0 then st bs m i + (Fw bs i + k) else st bs m i - (Fw bs i + k)
theorem ltw_end (bs : List (Int × Int)) (m : Int) (i : Nat) : ltw bs m i (tm bs m i - Fw bs i) = st bs m (i + 1) := by
  show (if i % 2 = 0 then st bs m i + (Fw bs i + (tm bs m i - Fw bs i)) else st bs m i - (Fw bs i + (tm bs m i - Fw bs i))) = (if i % 2 = 0 then st bs m i + tm bs m i else st bs m i - tm bs m i)
  rw [show Fw bs i + (tm bs m i - Fw bs i) = tm bs m i by omega]
theorem ltw_step (bs : List (Int × Int)) (m : Int) (i : Nat) (k : Int) : ltw bs m i k + (1 - 2 * ((i : Int).fmod 2)) = ltw bs m i (k + 1) := by
  rw [fmod2]
  unfold ltw
  split <;> omega
theorem ltw_in {bs : List (Int × Int)} (h : Fit bs) {m : Int} (hm : gw bs ≤ m) {i : Nat} (hi' : i < bs.length) {k : Int} (k0 : 0 ≤ k) (k1 : Fw bs i + k ≤ tm bs m i) : 0 ≤ ltw bs m i k ∧ ltw bs m i k ≤ m := by
  have a := st_room h hm (i := i) (by omega)
  have b := st_room h hm (i := i + 1) (by omega)
  have f := (h i hi').1
  rw [← ltw_end] at b
  unfold ltw at b ⊢
  split at b <;> split <;> omega
theorem ltw_on {bs : List (Int × Int)} (h : Fit bs) {m : Int} (hm : gw bs ≤ m) {i : Nat} (hi' : i < bs.length) {k : Int} (k0 : 0 ≤ k) (k1 : Fw bs i + k ≤ tm bs m i) : onB bs m (i + 1) (ltw bs m i k).toNat = decide (Fw bs i + k = tm bs m i) := by
  have r := ltw_in h hm hi' k0 k1
  rw [Bool.eq_iff_iff, onB_iff, decide_eq_true_eq, Int.toNat_of_nonneg r.1]
  constructor
  · intro g
    unfold ltw at g
    have t : tm bs m i = tmA bs m i (st bs m i) := rfl
    unfold tmA at t
    split at g
    · rename_i q
      rw [if_pos q] at t
      split at t <;> omega
    · rename_i q
      rw [if_neg q] at t
      split at t <;> omega
  · intro g
    have e : k = tm bs m i - Fw bs i := by omega
    rw [e, ltw_end]
    exact st_in h hm (by omega)
end Xi

namespace Lw
open PySem PySem.Spec PyProof.Rows L2 Xi
def topS (i : Nat) : Stmt := PySem.Challenge.pw_pleatpunch_k32_worths_of_stretches.main.body.getD i (.Pass ⟨0, 0, 0, 0⟩)
structure Txt (mg : Str → Option Value) : Prop where
  abs : mg "abs" = none
  all : mg "all" = none
  any : mg "any" = none
  bool : mg "bool" = none
  enumerate : mg "enumerate" = none
  int : mg "int" = none
  isinstance : mg "isinstance" = none
  len : mg "len" = none
  list : mg "list" = none
  max : mg "max" = none
  min : mg "min" = none
  next : mg "next" = none
  range : mg "range" = none
  repr : mg "repr" = none
  set : mg "set" = none
  tuple : mg "tuple" = none
  zip : mg "zip" = none
abbrev s_law_jar : Stmt := topS 12
theorem sc_law_jar : FnScope ["script", "figures", "stir", "cell", "size"] ["script"] (defScope s_law_jar) := ⟨rfl, rfl, rfl, by decide +kernel, rfl, by decide +kernel, by decide +kernel⟩

abbrev s_law_tap : Stmt := topS 13
theorem sc_law_tap : FnScope ["jar", "wide", "told", "mixed"] ["jar", "wide"] (defScope s_law_tap) := ⟨rfl, rfl, rfl, by decide +kernel, rfl, by decide +kernel, by decide +kernel⟩

section
variable {P : Program} {w : World} {K : PySem.W.Frag} {mg : Str → Option Value} {base : Heap}
theorem ok_tap0 {f : Addr} {fd : FuncData} (F : Fun K "_law_tap" "_law_tap" s_law_tap f fd) : Dok P w K mg base CX0 1 f fd ["jar", "wide"] sp_pull0 := by
  refine Dok.calm F sc_law_tap (fun vs H Q E h => ?_) (fun cdv A outer s H vs Q E hr h => ?_)
  · obtain ⟨p, x, y, z, c, n, rfl, _⟩ := h
    rfl
  obtain ⟨p, x, y, z, c, n, rfl, hp, ⟨bx, by0, by1, bz, bn⟩, c0, c1, k⟩ := h
  refine ⟨_, (pss_cons (ps_if (pt_cmpR op_gt (pe_ix (k_ixL (K := K) rfl) (pv 0) pe_int (fun _ _ => rfl)) pe_int (nomark _)) (pss_cons (ps_set (i := 2) sc_law_tap.nd rfl (Or.inl rfl) (pe_op op_modN (pe_ix (k_ixL (K := K) rfl) (pv 0) pe_int (fun _ _ => rfl)) (pv 1)))
    (pss_cons (ps_asg (pe_op op_fdivN (pe_ix (k_ixL (K := K) rfl) (pv 0) pe_int (fun _ _ => rfl)) (pv 1)) (pg_sub (pv 0) pe_int set_list))
    (pss_one (ps_ret (pv 2))))) pss_nil)
    (pss_cons (ps_asg (pe_op op_add (pe_ix (k_ixL (K := K) rfl) (pv 0) pe_int (fun _ _ => rfl)) pe_int) (pg_sub (pv 0) pe_int set_list))
    (pss_cons (ps_set (i := 3) sc_law_tap.nd rfl (Or.inl rfl) (pe_op op_modN (pe_op op_add (pe_ix (k_ixL (K := K) rfl) (pv 0) pe_int (fun _ _ => rfl)) (pe_op op_mul pe_int (pe_ix (k_ixL (K := K) rfl) (pv 0) pe_int (fun _ _ => rfl)))) pe_int))
    (pss_cons (ps_set (i := 3) sc_law_tap.nd rfl (Or.inl rfl) (pe_op op_modN (pe_op op_mul (pv 3) (pv 3)) pe_int))
    (pss_cons (ps_set (i := 3) sc_law_tap.nd rfl (Or.inl rfl) (pe_op op_modN (pe_op op_add (pe_op op_mul (pv 3) pe_int) (pe_ix (k_ixL (K := K) rfl) (pv 0) pe_int (fun _ _ => rfl))) pe_int))
    (pss_one (ps_ret (pe_op op_modN (pe_op op_fdivN (pe_op op_modN (pe_op op_mul (pv 3) (pv 3)) pe_int) pe_int) (pv 1))))))))), ?_⟩
  have hS : ∀ {H : Hp} {x y z : Int}, H p = some (reelL x y z) → SqL K H p [.int x, .int y, .int z] := fun h => SqL.of h
  refine ⟨.ref p, rfl, p, _, 0, .int x, rfl, rfl, hS hp, rfl, x, 0, rfl, rfl, _, rfl, ite2 (fun h0 => ?_) (fun _ => ?_)⟩
  · have cd : c ≠ 0 ∧ c.natAbs < 1073741824 := by
      have : (2 : Int) ^ 29 = 536870912 := by decide
      omega
    refine ⟨.ref p, rfl, p, _, 0, .int x, rfl, rfl, hS hp, rfl, .int c, rfl, x, c, rfl, rfl, cd.1, ?_⟩
    refine ⟨.ref p, rfl, p, _, 0, .int x, rfl, rfl, hS hp, rfl, .int c, rfl, x, c, rfl, rfl, cd, .ref p, rfl, p, _, 0, 0, rfl, rfl, hp, rfl, .int (x.fmod c), rfl, ?_⟩
    exact k _ _ _ ⟨fdiv_bd bx c0, by0, by1, bz, by omega⟩ (fmod_lt c0).1 (fmod_lt c0).2
  · refine ⟨.ref p, rfl, p, _, 2, .int z, rfl, rfl, hS hp, rfl, z, 1, rfl, rfl, .ref p, rfl, p, _, 2, 2, rfl, rfl, hp, rfl, ?_⟩
    have hp2 : upd H p (reelL x y (z + 1)) p = some (reelL x y (z + 1)) := upd_same
    have zb : 0 ≤ z + 1 ∧ z + 1 ≤ 1000000000 := by omega
    have nz : (2305843009213693951 : Int) ≠ 0 := by decide
    refine ⟨.ref p, rfl, p, _, 1, .int y, rfl, rfl, hS hp2, rfl, .ref p, rfl, p, _, 2, .int (z + 1), rfl, rfl, hS hp2, rfl, 1103515245, z + 1, rfl, rfl, .inl ⟨by decide, by decide⟩, y, _, rfl, rfl, _, 2305843009213693951, rfl, rfl, nz, ?_⟩
    obtain ⟨u, hu⟩ : ∃ u, u = (y + 1103515245 * (z + 1)).fmod 2305843009213693951 := ⟨_, rfl⟩
    have bu : 0 ≤ u ∧ u < 2305843009213693951 := by
      rw [hu]
      exact fmod_lt (by decide)
    have e64 : (2 : Int) ^ 64 = 18446744073709551616 := by decide
    refine ⟨.int u, by rw [hu]; rfl, .int u, by rw [hu]; rfl, u, u, rfl, rfl, .inl ⟨by omega, by omega⟩, _, 2305843009213693951, rfl, rfl, nz, ?_⟩
    obtain ⟨v, hv⟩ : ∃ v, v = (u * u).fmod 2305843009213693951 := ⟨_, rfl⟩
    refine ⟨.int v, by rw [hv]; rfl, v, 69069, rfl, rfl, .inr ⟨by decide, by decide⟩, .ref p, rfl, p, _, 2, .int (z + 1), rfl, rfl, hS hp2, rfl, _, _, rfl, rfl, _, 2305843009213693951, rfl, rfl, nz, ?_⟩
    obtain ⟨t, ht⟩ : ∃ t, t = (v * 69069 + (z + 1)).fmod 2305843009213693951 := ⟨_, rfl⟩
    have bt : 0 ≤ t ∧ t < 2305843009213693951 := by
      rw [ht]
      exact fmod_lt (by decide)
    refine ⟨.int t, by rw [ht]; rfl, .int t, by rw [ht]; rfl, t, t, rfl, rfl, .inl ⟨by omega, by omega⟩, _, 2305843009213693951, rfl, rfl, nz, _, 1048583, rfl, rfl, ⟨by decide, by decide⟩, .int c, rfl, _, c, rfl, rfl, by omega, ?_⟩
    exact k _ _ _ ⟨bx, by0, by1, zb.1, by omega⟩ (fmod_lt c0).1 (fmod_lt c0).2
theorem ok_tap {f : Addr} {fd : FuncData} (o : Own K mg "_law_tap" s_law_tap ["jar", "wide"] f fd) : Cal P w K mg base CX0 1 "_law_tap" s_law_tap ["jar", "wide"] sp_pull :=
  ⟨f, fd, o, pull_of (ok_tap0 o.F) rfl⟩
def sp_jar0 (K : PySem.W.Frag) : Sp := fun vs H Q _ => ∃ (a : Addr) (ns : List Int), vs = [.ref a] ∧ SqL K H a (ns.map V.int) ∧ ns.length ≤ 63 ∧ ∀ p x y H', H' p = none → Same H H' → RB 1000000 x y 0 → Q (.ref p) (upd H' p (reelL x y 0))
/-- a new jar, good for a million draws -/
def sp_jar (K : PySem.W.Frag) : Sp := fun vs H Q _ => ∃ (a : Addr) (ns : List Int), vs = [.ref a] ∧ SqL K H a (ns.map V.int) ∧ ns.length ≤ 63 ∧ ∀ p H', H p = none → Same H H' → H' p = some (rl 1000000 p) → Q (.ref p) H'
theorem ok_jar {f : Addr} {fd : FuncData} (o : Own K mg "_law_jar" s_law_jar ["script"] f fd) (T : Txt mg) : Cal P w K mg base CX0 1 "_law_jar" s_law_jar ["script"] (sp_jar K) := by
  refine ⟨f, fd, o, Dok.made (sp := sp_jar0 K) ?_ (fun vs H Q E h => ?_)⟩
  rotate_left
  · obtain ⟨a, ns, rfl, hS, hl, q⟩ := h
    exact ⟨a, ns, rfl, hS, hl, fun p x y H' hp s b => ⟨H', p, x, y, 0, 1000000, b, rfl, q p _ (s.free hp) (s.trans (same_new hp)) upd_same⟩⟩
  refine Dok.calm o.F sc_law_jar (fun vs H Q E h => ?_) (fun cdv A outer s H vs Q E hr h => ?_)
  · obtain ⟨a, ns, rfl, _⟩ := h
    rfl
  obtain ⟨a, ns, rfl, hS, hl, q⟩ := h
  refine ⟨_, (pss_cons (ps_asg (pe_tup (pa_cons pe_int (pa_cons pe_int pa_nil))) (pg_tup rfl (pgs_cons (pg_name (i := 1) sc_law_jar.nd rfl (Or.inl rfl)) (pgs_cons (pg_name (i := 2) sc_law_jar.nd rfl (Or.inl rfl)) pgs_nil))))
    (pss_cons (ps_for PassesOwn.never rfl (pi_list (pe_slice (k_slL (K := K) rfl) (pv 0) po_none (po_some pe_int))) (pg_name (i := 3) sc_law_jar.nd rfl (Or.inl rfl)) (pss_cons (ps_set (i := 4) sc_law_jar.nd rfl (Or.inl rfl) (pe_callB call_abs (by rfl) T.abs (by decide +kernel) (pa_cons (pv 3) pa_nil)))
    (pss_cons (ps_if (pt_cmpR op_ge (pv 4) (pe_op op_pow pe_int pe_int) (nomark _)) (pss_one (ps_set (i := 1) sc_law_jar.nd rfl (Or.inl rfl) (pe_op op_add (pe_op op_mulW (pv 1) (pe_op op_powW (pe_op op_pow pe_int pe_int) pe_int)) (pe_op op_modN (pv 4) (pe_op op_powW (pe_op op_pow pe_int pe_int) pe_int))))) pss_nil)
    (pss_one (ps_set (i := 2) sc_law_jar.nd rfl (Or.inl rfl) (pe_op op_modN (pe_op op_add (pe_op op_add (pe_op op_mul (pv 2) pe_int) (pe_op op_modN (pv 3) pe_int)) pe_int) pe_int))))))
    (pss_one (ps_ret (pe_lst (pa_cons (pv 1) (pa_cons (pv 2) (pa_cons pe_int pa_nil)))))))), ?_⟩
  refine ⟨(by show 2 ≤ sizeLine; decide), fun tt ntt => ⟨tt, _, rfl, SqT.of upd_same, rfl, _, _, rfl, _, [], rfl, rfl, ?_⟩⟩
  have sH := same_new (o := .tup [.int 0, .int 48271]) ntt
  generalize upd H tt (.tup [.int 0, .int 48271]) = H0 at sH
  refine ⟨.ref a, rfl, 63, rfl, a, _, rfl, sH.seq hS, fun l nl => ?_⟩
  have cutE : cutV (ns.map V.int) none (some 63) = ns.map V.int := by
    show cutV _ none (some ((63 : Nat) : Int)) = _
    rw [cut_to 63, List.take_of_length_le (by rw [List.length_map]; exact hl)]
  rw [cutE]
  have s0 := same_new (o := .lst (ns.map V.int)) nl
  have el : upd H0 l (.lst (ns.map V.int)) l = some (.lst (ns.map V.int)) := upd_same
  generalize upd H0 l (.lst (ns.map V.int)) = H1 at s0 el ⊢
  refine ⟨l, rfl, ⟨_, SqL.of el⟩, ?_⟩
  have b50 : ((10 : Int) ^ Int.toNat 50).natAbs < 2 ^ 167 := by decide
  have b300 : (((10 : Int) ^ Int.toNat 50) ^ Int.toNat 6).natAbs < 2 ^ 1000 := by decide +kernel
  have n300 : ((10 : Int) ^ Int.toNat 50) ^ Int.toNat 6 ≠ 0 := by decide +kernel
  have p300 : 0 < ((10 : Int) ^ Int.toNat 50) ^ Int.toNat 6 := by decide +kernel
  refine for_it (walk_list (xs := ns.map V.int)) (fun i σ H' => ∃ (fg st : Int) (v3 v4 : Option V), σ = [some (.ref a), some (.int fg), some (.int st), v3, v4] ∧ H' = H1 ∧ 0 ≤ fg ∧ fg < 2 ^ (1000 * i) ∧ 0 ≤ st ∧ st < 2305843009213693951) ⟨0, 48271, none, none, rfl, rfl, by decide, by decide, by decide, by decide⟩ (fun _ _ _ _ ⟨_, _, _, _, _, e, _⟩ => SqL.of (e ▸ el)) ?_ ?_
  · rintro i x σ H2 H2' hi ⟨fg, st, v3, v4, rfl, rfl, f0, f1, t0, t1⟩ ⟨rfl, ex⟩
    obtain ⟨c, ec, rfl⟩ := ints_at ex
    rw [List.length_map] at hi
    dsimp only [gName, tSeq]
    refine ⟨.int c, rfl, c, rfl, ?_⟩
    obtain ⟨sz, hsz⟩ : ∃ sz, sz = (if c < 0 then -c else c) := ⟨_, rfl⟩
    rw [← hsz]
    have sz0 : 0 ≤ sz := by
      rw [hsz]
      split <;> omega
    have nz1 : (2147483629 : Int) ≠ 0 := by decide
    have nz2 : (2305843009213693951 : Int) ≠ 0 := by decide
    dsimp only [gName, tSeq]
    refine with_nx (t := tIfS _ _ _) (fun σ H' => ∃ fg : Int, σ = [some (.ref a), some (.int fg), some (.int st), some (.int c), some (.int sz)] ∧ H' = H2' ∧ 0 ≤ fg ∧ fg < 2 ^ (1000 * (i + 1))) ?_ (fun rest => ?_)
    · rintro σ H3 ⟨fg, rfl, rfl, g0, g1⟩
      refine ⟨.int st, rfl, st, 16807, rfl, rfl, .inr ⟨by decide, by decide⟩, .int c, rfl, c, 2147483629, rfl, rfl, nz1, _, _, rfl, rfl, _, 1, rfl, rfl, _, _, rfl, rfl, nz2, ?_⟩
      exact ⟨_, _, _, _, rfl, rfl, g0, g1, fmod_lt (by decide)⟩
    · have mono : fg < 2 ^ (1000 * (i + 1)) := Int.lt_of_lt_of_le f1 (by
        rw [show 1000 * (i + 1) = 1000 * i + 1000 by omega, Int.pow_add]
        have : (0 : Int) < 2 ^ (1000 * i) := Int.pow_pos (by decide)
        have h2 : (1 : Int) ≤ 2 ^ 1000 := by decide +kernel
        have := Int.mul_le_mul_of_nonneg_left h2 (Int.le_of_lt this)
        omega)
      refine ⟨.int sz, rfl, 10, 18, rfl, rfl, ⟨by decide, by decide, by decide⟩, sz, _, rfl, rfl, _, rfl, ite2 (fun g => ?_) (fun g => ?_)⟩
      · refine ⟨.int fg, rfl, 10, 50, rfl, rfl, ⟨by decide, by decide, by decide⟩, _, 6, rfl, rfl, powk b50 (by decide) (by decide) (by decide) (by decide), ?_⟩
        obtain ⟨r, hr⟩ : ∃ r, r = sz.fmod (((10 : Int) ^ Int.toNat 50) ^ Int.toNat 6) := ⟨_, rfl⟩
        have br := fmod_lt (a := sz) p300
        rw [← hr] at br
        have bf : fg.natAbs < 2 ^ (1000 * i + 1) := by
          have e : ((2 ^ (1000 * i) : Nat) : Int) = (2 : Int) ^ (1000 * i) := by simp
          have e2 : 2 ^ (1000 * i + 1) = 2 ^ (1000 * i) * 2 := Nat.pow_succ _ _
          omega
        refine ⟨fg, _, rfl, rfl, wide_mul bf b300 (by omega) (by decide) (by omega), .int sz, rfl, 10, 50, rfl, rfl, ⟨by decide, by decide, by decide⟩, _, 6, rfl, rfl, powk b50 (by decide) (by decide) (by decide) (by decide), sz, _, rfl, rfl, n300, _, _, rfl, rfl, ?_⟩
        refine rest _ _ ⟨fg * (((10 : Int) ^ Int.toNat 50) ^ Int.toNat 6) + r, by rw [hr]; rfl, rfl, ?_, ?_⟩
        · have := Int.mul_nonneg f0 (Int.le_of_lt p300)
          omega
        · have h1 : fg + 1 ≤ 2 ^ (1000 * i) := f1
          have h2 : (fg + 1) * (((10 : Int) ^ Int.toNat 50) ^ Int.toNat 6) ≤ 2 ^ (1000 * i) * (((10 : Int) ^ Int.toNat 50) ^ Int.toNat 6) := Int.mul_le_mul_of_nonneg_right h1 (Int.le_of_lt p300)
          have h3 : (2 : Int) ^ (1000 * i) * (((10 : Int) ^ Int.toNat 50) ^ Int.toNat 6) ≤ 2 ^ (1000 * i) * 2 ^ 1000 := Int.mul_le_mul_of_nonneg_left (by decide +kernel) (Int.le_of_lt (Int.pow_pos (by decide)))
          rw [show 1000 * (i + 1) = 1000 * i + 1000 by omega, Int.pow_add]
          rw [Int.add_mul, Int.one_mul] at h2
          omega
      · exact rest _ _ ⟨fg, rfl, rfl, f0, mono⟩
  · rintro σ H2 ⟨fg, st, v3, v4, rfl, rfl, f0, f1, t0, t1⟩
    refine ⟨.int fg, rfl, .int st, rfl, (by show 3 ≤ sizeLine; decide), fun p hp => ?_⟩
    have e200 : (2 : Int) ^ 200 = 1606938044258990275541962092341162602522202993782792835301376 := by decide
    exact q p fg st _ hp (sH.trans s0) ⟨f0, t0, by omega, by omega, by decide⟩
end
abbrev s_law_row : Stmt := topS 14
theorem sc_law_row : FnScope ["jar", "most", "bears", "chance", "found", "cell", "holed", "few", "any_left"] ["jar", "most", "bears"] (defScope s_law_row) := ⟨rfl, rfl, rfl, by decide +kernel, rfl, by decide +kernel, by decide +kernel⟩

abbrev s_law_want : Stmt := topS 15
theorem sc_law_want : FnScope ["jar", "row", "chance", "torn", "found", "cell", "holed", "left"] ["jar", "row"] (defScope s_law_want) := ⟨rfl, rfl, rfl, by decide +kernel, rfl, by decide +kernel, by decide +kernel⟩

section
variable {P : Program} {w : World} {K : PySem.W.Frag} {mg : Str → Option Value} {base : Heap}
/-- a drawn strip of one to m cells, passes to b: a new list -/
def sp_jrow : Sp := fun vs H Q _ => ∃ (p : Addr) (m b : Int) (n : Nat), vs = [.ref p, .int m, .int b] ∧ H p = some (rl n p) ∧ 1000 ≤ n ∧ 1 ≤ m ∧ m ≤ 200 ∧ 1 ≤ b ∧ b ≤ 99 ∧
  ∀ (S : Addr) (H' : Hp) (n' : Nat) (rs : List Addr) (cs : List (Bool × Int)), n ≤ n' + 1000 → Sr p n n' H H' → H S = none → Cells H' S rs cs → (∀ c ∈ cs, 0 ≤ c.2 ∧ c.2 ≤ b) → 1 ≤ cs.length → (cs.length : Int) ≤ m → Q (.ref S) H'
theorem ok_jrow {f : Addr} {fd : FuncData} (o : Own K mg "_law_row" s_law_row ["jar", "most", "bears"] f fd) (T : Txt mg) (C_law_tap : Cal P w K mg base CX0 1 "_law_tap" s_law_tap ["jar", "wide"] sp_pull) :
    Cal P w K mg base CX0 2 "_law_row" s_law_row ["jar", "most", "bears"] sp_jrow := by
  refine ⟨f, fd, o, ?_⟩
  refine Dok.calm o.F sc_law_row (fun vs H Q E h => ?_) (fun cdv A outer s H vs Q E hr h => ?_)
  · obtain ⟨p, m, b, n, rfl, _⟩ := h
    rfl
  obtain ⟨p, m, b, n, rfl, hp, hn, m1, m2, b1, b2, k⟩ := h
  refine ⟨_, (pss_cons (ps_set (i := 3) sc_law_row.nd rfl (Or.inl rfl) (pe_ix (k_ixL (K := K) rfl) (pe_lst (pa_cons pe_int (pa_cons pe_int (pa_cons pe_int (pa_cons pe_int pa_nil))))) (c_call C_law_tap (hr.mono (by omega)) pass0 (pa_cons (pv 0) (pa_cons pe_int pa_nil))) (fun _ _ => rfl)))
    (pss_cons (ps_set (i := 4) sc_law_row.nd rfl (Or.inl rfl) (pe_lst pa_nil))
    (pss_cons (ps_for PassesOwn.never rfl (pi_range1 rfl T.range (pa_cons (pe_op op_add pe_int (c_call C_law_tap (hr.mono (by omega)) pass0 (pa_cons (pv 0) (pa_cons (pv 1) pa_nil)))) pa_nil)) (pg_name (i := 5) sc_law_row.nd rfl (Or.inl rfl)) (pss_cons (ps_set (i := 6) sc_law_row.nd rfl (Or.inl rfl) (pe_cmpR op_eq (c_call C_law_tap (hr.mono (by omega)) pass0 (pa_cons (pv 0) (pa_cons (pv 3) pa_nil))) pe_int (nomark _)))
    (pss_cons (ps_set (i := 7) sc_law_row.nd rfl (Or.inl rfl) (c_call C_law_tap (hr.mono (by omega)) pass0 (pa_cons (pv 0) (pa_cons (pe_op op_add (pe_callB (call_min2 rfl) (by rfl) T.min (by decide +kernel) (pa_cons pe_int (pa_cons (pv 2) pa_nil))) pe_int) pa_nil))))
    (pss_cons (ps_set (i := 8) sc_law_row.nd rfl (Or.inl rfl) (c_call C_law_tap (hr.mono (by omega)) pass0 (pa_cons (pv 0) (pa_cons (pe_op op_add (pv 2) pe_int) pa_nil))))
    (pss_one (ps_expr (pe_bm PySem.F.plainAttrs_list PySem.F.slot_list_append PySem.F.type_list_append mt_append (pv 4) (pa_cons (pe_tup (pa_cons (pv 6) (pa_cons (pe_ix (k_ixL (K := K) rfl) (pe_lst (pa_cons (pv 7) (pa_cons (pv 8) (pa_cons pe_int (pa_cons (pv 2) pa_nil))))) (c_call C_law_tap (hr.mono (by omega)) pass0 (pa_cons (pv 0) (pa_cons pe_int pa_nil))) (fun _ _ => rfl)) pa_nil))) pa_nil))))))))
    (pss_one (ps_ret (pv 4)))))), ?_⟩
  refine ⟨(by show 4 ≤ sizeLine; decide), fun l1 hl1 => ?_⟩
  have s1 := (Sr.refl hp).new (o := .lst [.int 2, .int 3, .int 6, .int 40]) hl1
  refine ⟨.ref p, rfl, p, 4, n, rfl, s1.b, by omega, by decide, by decide, fun r1 H1 s2 a1 x1 => ?_⟩
  obtain ⟨ch, ev, mv⟩ := pick (xs := [2, 3, 6, 40]) a1 (show r1 < 4 from x1)
  have ch1 : 2 ≤ ch ∧ ch ≤ 40 := by
    simp only [List.mem_cons, List.not_mem_nil, or_false] at mv
    rcases mv with rfl | rfl | rfl | rfl <;> omega
  refine ⟨l1, _, r1, .int ch, rfl, rfl, SqL.of (s2.lst upd_same), ev, ?_⟩
  have s3 := s1.trans s2
  refine ⟨Nat.zero_le _, fun S hS => ?_⟩
  have nS : H S = none := s3.free hS
  have s4 := s3.new (o := .lst []) hS
  refine ⟨.ref p, rfl, .int m, rfl, p, m, n - 1, rfl, s4.b, by omega, by omega, by omega, fun r2 H2 s5 a2 x2 => ⟨1, r2, rfl, rfl, 1 + r2, rfl, by omega, by omega, ?_⟩⟩
  have s6 := s4.trans s5
  refine for_it walk_range (fun i σ H' => ∃ (v5 v6 v7 v8 : Option V) (rs : List Addr) (cs : List (Bool × Int)) (n' : Nat), σ = [some (.ref p), some (.int m), some (.int b), some (.int ch), some (.ref S), v5, v6, v7, v8] ∧
      Sr p n n' H H' ∧ n ≤ n' + 2 + 4 * i ∧ Cells H' S rs cs ∧ cs.length = i ∧ (∀ c ∈ cs, 0 ≤ c.2 ∧ c.2 ≤ b))
    ⟨none, none, none, none, [], [], _, rfl, s6, by omega, Cells.nil (s5.lst upd_same), rfl, fun c hc => (by cases hc)⟩ (fun _ _ _ _ _ => True.intro) ?_ ?_
  · rintro i x σ H3 H3' hi ⟨v5, v6, v7, v8, rs, cs, n', rfl, t1, hn', hC, lc, hb⟩ ⟨rfl, rfl⟩
    have hi' : i < (1 + r2).toNat := hi
    refine ⟨.ref p, rfl, .int ch, rfl, p, ch, n', rfl, t1.b, by omega, by omega, by omega, fun q1 H4 t2 y1 z1 => ⟨rfl, ?_⟩⟩
    obtain ⟨hd, hhd⟩ : ∃ hd, hd = decide (V.int q1 = V.int 0) := ⟨_, rfl⟩
    rw [← hhd]
    refine ⟨.ref p, rfl, .int b, rfl, 3, b, rfl, ?_⟩
    obtain ⟨mn, hmn⟩ : ∃ mn, mn = (if b < 3 then b else 3) := ⟨_, rfl⟩
    rw [← hmn]
    have mn1 : 1 ≤ mn ∧ mn ≤ 3 ∧ mn ≤ b := by
      rw [hmn]
      split <;> omega
    refine ⟨mn, 1, rfl, rfl, p, mn + 1, n' - 1, rfl, t2.b, by omega, by omega, by omega, fun q2 H5 t3 y2 z2 => ?_⟩
    refine ⟨.ref p, rfl, .int b, rfl, b, 1, rfl, rfl, p, b + 1, n' - 1 - 1, rfl, t3.b, by omega, by omega, by omega, fun q3 H6 t4 y3 z3 => ?_⟩
    have u4 := (t2.trans t3).trans t4
    have eS6 := u4.lst hC.at_
    refine ⟨.ref S, rfl, .inl ⟨rfl, _, SqL.of eS6⟩, .bl hd, rfl, .int q2, rfl, .int q3, rfl, .int b, rfl, (by show 4 ≤ sizeLine; decide), fun l2 hl2 => ?_⟩
    have u5 := u4.new (o := .lst [.int q2, .int q3, .int 1, .int b]) hl2
    refine ⟨.ref p, rfl, p, 4, n' - 1 - 1 - 1, rfl, u5.b, by omega, by decide, by decide, fun q4 H7 t5 y4 z4 => ?_⟩
    obtain ⟨lf, ev4, mv4⟩ := pick (xs := [q2, q3, 1, b]) y4 (show q4 < 4 from z4)
    have lf1 : 0 ≤ lf ∧ lf ≤ b := by
      simp only [List.mem_cons, List.not_mem_nil, or_false] at mv4
      rcases mv4 with rfl | rfl | rfl | rfl <;> omega
    have u6 := u5.trans t5
    have hC7 : Cells H7 S rs cs := ⟨u6.lst hC.at_, hC.len, fun j c e => by
      obtain ⟨r, x1, x2⟩ := hC.get j c e
      exact ⟨r, x1, u6.tup x2⟩⟩
    refine ⟨l2, _, q4, .int lf, rfl, rfl, SqL.of (t5.lst upd_same), ev4, (by show 2 ≤ sizeLine; decide), fun tt ntt => ?_⟩
    refine ⟨S, _, _, rfl, rfl, (same_new ntt) _ _ hC7.at_, by rw [List.length_map, hC7.len]; exact long_ok (by omega), ?_⟩
    refine ⟨_, _, _, _, rs ++ [tt], cs ++ [(hd, lf)], _, rfl, ((t1.trans u6).new ntt).mut nS, by omega, hC7.push ntt (hd, lf), by rw [List.length_append, lc] <;> rfl, fun c hc => ?_⟩
    rcases List.mem_append.mp hc with h | h
    · exact hb c h
    · rw [List.mem_singleton.mp h]
      exact lf1
  · rintro σ H3 ⟨v5, v6, v7, v8, rs, cs, n', rfl, t1, hn', hC, lc, hb⟩
    exact ⟨.ref S, rfl, k S H3 n' rs cs (by omega) t1 nS hC hb (by omega) (by omega)⟩
/-- a drawn wish of a strip: a new list -/
def sp_jwant : Sp := fun vs H Q _ => ∃ (p S : Addr) (n : Nat) (rs : List Addr) (cs : List (Bool × Int)), vs = [.ref p, .ref S] ∧ H p = some (rl n p) ∧ 1000 ≤ n ∧ Cells H S rs cs ∧ cs.length ≤ 200 ∧
  ∀ (W : Addr) (H' : Hp) (n' : Nat) (ws : List Int), n ≤ n' + 1000 → Sr p n n' H H' → H W = none → Wish H' S W rs cs ws → WOk cs ws → Q (.ref W) H'
theorem ok_jwant {f : Addr} {fd : FuncData} (o : Own K mg "_law_want" s_law_want ["jar", "row"] f fd) (T : Txt mg) (C_law_tap : Cal P w K mg base CX0 1 "_law_tap" s_law_tap ["jar", "wide"] sp_pull) :
    Cal P w K mg base CX0 2 "_law_want" s_law_want ["jar", "row"] sp_jwant := by
  refine ⟨f, fd, o, ?_⟩
  refine Dok.calm o.F sc_law_want (fun vs H Q E h => ?_) (fun cdv A outer s H vs Q E hr h => ?_)
  · obtain ⟨p, S, n, rs, cs, rfl, _⟩ := h
    rfl
  obtain ⟨p, S, n, rs, cs, rfl, hp, hn, hC, hl, k⟩ := h
  refine ⟨_, (pss_cons (ps_set (i := 2) sc_law_want.nd rfl (Or.inl rfl) (pe_ix (k_ixL (K := K) rfl) (pe_lst (pa_cons pe_int (pa_cons pe_int (pa_cons pe_int pa_nil)))) (c_call C_law_tap (hr.mono (by omega)) pass0 (pa_cons (pv 0) (pa_cons pe_int pa_nil))) (fun _ _ => rfl)))
    (pss_cons (ps_set (i := 3) sc_law_want.nd rfl (Or.inl rfl) (pe_ix (k_ixL (K := K) rfl) (pe_lst (pa_cons pe_int (pa_cons pe_int pa_nil))) (c_call C_law_tap (hr.mono (by omega)) pass0 (pa_cons (pv 0) (pa_cons pe_int pa_nil))) (fun _ _ => rfl)))
    (pss_cons (ps_set (i := 4) sc_law_want.nd rfl (Or.inl rfl) (pe_lst pa_nil))
    (pss_cons (ps_for PassesOwn.never rfl (pi_enum (by rfl) T.enumerate (pa_cons (pv 1) pa_nil)) (pg_tup rfl (pgs_cons (pg_name (i := 5) sc_law_want.nd rfl (Or.inl rfl)) (pgs_cons (pg_tup rfl (pgs_cons (pg_name (i := 6) sc_law_want.nd rfl (Or.inl rfl)) (pgs_cons (pg_name (i := 7) sc_law_want.nd rfl (Or.inl rfl)) pgs_nil))) pgs_nil))) (pss_one (ps_if (PW.pt (pw_and (pt_not (pt_val (pv 6))) (pw_and (pt_cmpR op_eq (c_call C_law_tap (hr.mono (by omega)) pass0 (pa_cons (pv 0) (pa_cons (pv 2) pa_nil))) pe_int (nomark _)) (pw_and1 (PW.pt (pw_or (pt_cmpR op_gt (pv 7) pe_int (nomark _)) (pw_or1 (pt_cmpR op_eq (c_call C_law_tap (hr.mono (by omega)) pass0 (pa_cons (pv 0) (pa_cons (pe_op op_mul (pv 3) pe_int) pa_nil))) pe_int (nomark _))))))))) (pss_one (ps_expr (pe_bm PySem.F.plainAttrs_list PySem.F.slot_list_append PySem.F.type_list_append mt_append (pv 4) (pa_cons (pv 5) pa_nil)))) pss_nil)))
    (pss_one (ps_ret (pv 4))))))), ?_⟩
  refine ⟨(by show 3 ≤ sizeLine; decide), fun l1 hl1 => ?_⟩
  have s1 := (Sr.refl hp).new (o := .lst [.int 1, .int 2, .int 4]) hl1
  refine ⟨.ref p, rfl, p, 3, n, rfl, s1.b, by omega, by decide, by decide, fun r1 H1 s2 a1 x1 => ?_⟩
  obtain ⟨ch, ev, mv⟩ := pick (xs := [1, 2, 4]) a1 (show r1 < 3 from x1)
  have ch1 : 1 ≤ ch ∧ ch ≤ 4 := by
    simp only [List.mem_cons, List.not_mem_nil, or_false] at mv
    rcases mv with rfl | rfl | rfl <;> omega
  refine ⟨l1, _, r1, .int ch, rfl, rfl, SqL.of (s2.lst upd_same), ev, ?_⟩
  refine ⟨(by show 2 ≤ sizeLine; decide), fun l2 hl2 => ?_⟩
  have s3 := (s1.trans s2).new (o := .lst [.int 1, .int 20]) hl2
  refine ⟨.ref p, rfl, p, 2, n - 1, rfl, s3.b, by omega, by decide, by decide, fun r2 H2 s4 a2 x2 => ?_⟩
  obtain ⟨to, ev2, mv2⟩ := pick (xs := [1, 20]) a2 (show r2 < 2 from x2)
  have to1 : 1 ≤ to ∧ to ≤ 20 := by
    simp only [List.mem_cons, List.not_mem_nil, or_false] at mv2
    rcases mv2 with rfl | rfl <;> omega
  refine ⟨l2, _, r2, .int to, rfl, rfl, SqL.of (s4.lst upd_same), ev2, ?_⟩
  have s5 := s3.trans s4
  refine ⟨Nat.zero_le _, fun W hW => ?_⟩
  have nW : H W = none := s5.free hW
  have s6 := s5.new (o := .lst []) hW
  have eS6 := s6.lst hC.at_
  have nSW : S ≠ W := ne_of_none hC.at_ nW
  refine ⟨.ref S, rfl, S, _, rfl, SqL.of eS6, ?_⟩
  have lrs : (rs.map V.ref).length = cs.length := by rw [List.length_map, hC.len]
  refine for_it (walk_enum (xs := rs.map V.ref)) (fun i σ H' => ∃ (v5 v6 v7 : Option V) (ws : List Int) (n' : Nat), σ = [some (.ref p), some (.ref S), some (.int ch), some (.int to), some (.ref W), v5, v6, v7] ∧
      Sr p n n' H H' ∧ n ≤ n' + 2 + 2 * i ∧ H' W = some (.lst (ws.map V.int)) ∧ ws.length ≤ i ∧ WOk cs ws ∧ ∀ z ∈ ws, z < (i : Int))
    ⟨none, none, none, [], _, rfl, s6, by omega, upd_same, Nat.le_refl _, ⟨fun z hz => (by cases hz), List.Pairwise.nil, fun z hz => (by cases hz)⟩, fun z hz => (by cases hz)⟩ (fun i σ H' _ ⟨_, _, _, _, _, _, t, _⟩ => SqL.of (t.lst hC.at_)) ?_ ?_
  · rintro i x σ H3 H3' hi ⟨v5, v6, v7, ws, n', rfl, t1, hn', eW, lw, ok, hz⟩ ⟨t, y1, y2, rfl, nt, rfl, e1, e2⟩
    cases (Option.some.inj e1 : V.int (i : Nat) = y1)
    obtain ⟨r, rfl, hi2, er2⟩ := (hC.sr t1).item e2
    obtain ⟨c, hc⟩ : ∃ c, c = cs.getD i (false, 0) := ⟨_, rfl⟩
    rw [← hc] at er2
    obtain ⟨hh, lf⟩ := c
    have s7 := same_new (o := .tup [.int (i : Nat), .ref r]) nt
    have t2 := t1.new (o := .tup [.int (i : Nat), .ref r]) nt
    refine ⟨t, _, rfl, SqT.of upd_same, rfl, _, _, rfl, _, [], rfl, r, _, rfl, SqT.of (s7 _ _ er2), rfl, _, _, rfl, _, [], rfl, rfl, rfl, ?_⟩
    have eW2 := s7 _ _ eW
    generalize upd H3 t (.tup [.int (i : Nat), .ref r]) = H4 at t2 eW2
    have gd := hc.symm
    have nodd : ∀ {n2 : Nat} {H5 : Hp}, Sr p n n2 H H5 → n ≤ n2 + 2 + 2 * (i + 1) → H5 W = some (.lst (ws.map V.int)) → ∃ (v5 v6 v7 : Option V) (ws : List Int) (n' : Nat), [some (V.ref p), some (.ref S), some (.int ch), some (.int to), some (.ref W), some (.int (i : Nat)), some (.bl hh), some (.int lf)] = [some (.ref p), some (.ref S), some (.int ch), some (.int to), some (.ref W), v5, v6, v7] ∧
        Sr p n n' H H5 ∧ n ≤ n' + 2 + 2 * (i + 1) ∧ H5 W = some (.lst (ws.map V.int)) ∧ ws.length ≤ i + 1 ∧ WOk cs ws ∧ ∀ z ∈ ws, z < ((i + 1 : Nat) : Int) := fun a b c => ⟨_, _, _, ws, _, rfl, a, b, c, Nat.le_succ_of_le lw, ok, fun z h => by have := hz z h; omega⟩
    cases hh with
    | true => exact ⟨_, rfl, true, rfl, iteF (iteF (nodd t2 (by omega) eW2))⟩
    | false =>
      refine ⟨_, rfl, false, rfl, iteT ⟨.ref p, rfl, .int ch, rfl, p, ch, n', rfl, t2.b, by omega, by omega, by omega, fun q1 H5 t3 y1 z1 => ⟨rfl, ?_⟩⟩⟩
      have t4 := t2.trans t3
      have eW3 := t3.lst eW2
      have yes : ∀ {n2 : Nat} {H5 : Hp}, Sr p n n2 H H5 → n ≤ n2 + 2 + 2 * (i + 1) → H5 W = some (.lst (ws.map V.int)) → (ws.map V.int).length < sizeLine ∧ ∃ (v5 v6 v7 : Option V) (ws' : List Int) (n' : Nat), [some (V.ref p), some (.ref S), some (.int ch), some (.int to), some (.ref W), some (.int (i : Nat)), some (.bl false), some (.int lf)] = [some (.ref p), some (.ref S), some (.int ch), some (.int to), some (.ref W), v5, v6, v7] ∧
          Sr p n n' H (upd H5 W (.lst (ws.map V.int ++ [.int (i : Nat)]))) ∧ n ≤ n' + 2 + 2 * (i + 1) ∧ upd H5 W (.lst (ws.map V.int ++ [.int (i : Nat)])) W = some (.lst (ws'.map V.int)) ∧ ws'.length ≤ i + 1 ∧ WOk cs ws' ∧ ∀ z ∈ ws', z < ((i + 1 : Nat) : Int) := fun a b c => by
        refine ⟨by rw [List.length_map]; exact long_ok (by omega), _, _, _, ws ++ [(i : Int)], _, rfl, a.mut nW, b, by rw [upd_same, List.map_append] <;> rfl, by rw [List.length_append]; exact Nat.succ_le_succ lw, ⟨fun z h => ?_, pw_app ok.r hz, fun z h => ?_⟩, fun z h => ?_⟩
        · rcases List.mem_append.mp h with h | h
          · exact ok.b z h
          · rw [List.mem_singleton.mp h]
            omega
        · rcases List.mem_append.mp h with h | h
          · exact ok.w z h
          · rw [List.mem_singleton.mp h, Int.toNat_natCast, gd]
        · rcases List.mem_append.mp h with h | h
          · have := hz z h
            omega
          · rw [List.mem_singleton.mp h]
            omega
      by_cases c1 : V.int q1 = V.int 0
      · refine ⟨true, bl_tt c1, iteT ⟨.int lf, rfl, lf, 0, rfl, rfl, _, rfl, ite2 (fun g => iteT ?_) (fun g => ?_)⟩⟩
        · obtain ⟨a, b⟩ := yes t4 (by omega) eW3
          exact ⟨.ref W, rfl, .inl ⟨rfl, _, SqL.of eW3⟩, .int (i : Nat), rfl, W, _, _, rfl, rfl, eW3, a, b⟩
        · refine ⟨.ref p, rfl, .int to, rfl, to, 4, rfl, rfl, .inr ⟨by decide, by decide⟩, p, to * 4, n' - 1, rfl, t3.b, by omega, by omega, by omega, fun q2 H6 t5 y2 z2 => ⟨rfl, ?_⟩⟩
          have eW4 := t5.lst eW3
          have t6 := t4.trans t5
          by_cases c2 : V.int q2 = V.int 1
          · refine ⟨true, bl_tt c2, iteT ?_⟩
            obtain ⟨a, b⟩ := yes t6 (by omega) eW4
            exact ⟨.ref W, rfl, .inl ⟨rfl, _, SqL.of eW4⟩, .int (i : Nat), rfl, W, _, _, rfl, rfl, eW4, a, b⟩
          · exact ⟨false, bl_ff c2, iteF (nodd t6 (by omega) eW4)⟩
      · exact ⟨false, bl_ff c1, iteF (iteF (nodd t4 (by omega) eW3))⟩
  · rintro σ H3 ⟨v5, v6, v7, ws, n', rfl, t1, hn', eW, lw, ok, hz⟩
    rw [lrs] at hn' lw
    exact ⟨.ref W, rfl, k W H3 n' ws (by omega) t1 nW ⟨hC.sr t1, eW, by omega, by omega, ok.b⟩ ok⟩
end
abbrev s_law_long : Stmt := topS 16
theorem sc_law_long : FnScope ["jar", "row", "cut", "side", "holes", "found", "want", "cell", "holed", "left", "liked"] ["jar", "row"] (defScope s_law_long) := ⟨rfl, rfl, rfl, by decide +kernel, rfl, by decide +kernel, by decide +kernel⟩

abbrev s_law_sized : Stmt := topS 17
theorem sc_law_sized : FnScope ["jar", "size", "row", "want"] ["jar"] (defScope s_law_sized) := ⟨rfl, rfl, rfl, by decide +kernel, rfl, by decide +kernel, by decide +kernel⟩

section
variable {P : Program} {w : World} {K : PySem.W.Frag} {mg : Str → Option Value} {base : Heap}
/-- a strip with a wish of all cells of a parity: new lists -/
def sp_jlong : Sp := fun vs H Q _ => ∃ (p S : Addr) (n : Nat) (rs : List Addr) (cs : List (Bool × Int)), vs = [.ref p, .ref S] ∧ H p = some (rl n p) ∧ 1000 ≤ n ∧ Cells H S rs cs ∧ cs.length ≤ 200 ∧ (∀ c ∈ cs, 0 ≤ c.2 ∧ c.2 ≤ 99) ∧
  ∀ (q S' W : Addr) (H' : Hp) (n' : Nat) (rs' : List Addr) (cs' : List (Bool × Int)) (ws : List Int), n ≤ n' + 1000 → Sr p n n' H H' → H S' = none → H W = none → S' ≠ W → H q = none → H' q = some (.lst [.ref S', .ref W]) → Wish H' S' W rs' cs' ws → WOk cs' ws → (∀ c ∈ cs', 0 ≤ c.2 ∧ c.2 ≤ 99) →
    cs'.length = cs.length → Q (.ref q) H'
/-- what stands behind i cells -/
def LgI (p S F W : Addr) (H : Hp) (n : Nat) (r1 r2 r3 : Int) (i : Nat) (σ : L2.St) (H' : Hp) : Prop := ∃ (v7 v8 v9 v10 : Option V) (rs' : List Addr) (cs' : List (Bool × Int)) (ws : List Int) (n' : Nat), σ = [some (.ref p), some (.ref S), some (.int r1), some (.int r2), some (.int r3), some (.ref F), some (.ref W), v7, v8, v9, v10] ∧
      Sr p n n' H H' ∧ n ≤ n' + 3 + i ∧ Cells H' F rs' cs' ∧ H' W = some (.lst (ws.map V.int)) ∧ cs'.length = i ∧ ws.length ≤ i ∧ WOk cs' ws ∧ ∀ c ∈ cs', 0 ≤ c.2 ∧ c.2 ≤ 99
theorem ok_jlong {f : Addr} {fd : FuncData} (o : Own K mg "_law_long" s_law_long ["jar", "row"] f fd) (T : Txt mg) (C_law_tap : Cal P w K mg base CX0 1 "_law_tap" s_law_tap ["jar", "wide"] sp_pull) :
    Cal P w K mg base CX0 2 "_law_long" s_law_long ["jar", "row"] sp_jlong := by
  refine ⟨f, fd, o, ?_⟩
  refine Dok.calm o.F sc_law_long (fun vs H Q E h => ?_) (fun cdv A outer s H vs Q E hr h => ?_)
  · obtain ⟨p, S, n, rs, cs, rfl, _⟩ := h
    rfl
  obtain ⟨p, S, n, rs, cs, rfl, hp, hn, hC, hl, hb0, k⟩ := h
  refine ⟨_, (pss_cons (ps_par3 (i := 2) (j := 3) (l := 4) (by rfl) sc_law_long.nd rfl rfl rfl (by decide) (by decide) (by decide) rfl rfl rfl (pa_cons (c_call C_law_tap (hr.mono (by omega)) pass0 (pa_cons (pv 0) (pa_cons (pe_op op_add (pe_callB (kc_len (K := K) rfl) (by rfl) T.len (by decide +kernel) (pa_cons (pv 1) pa_nil)) pe_int) pa_nil))) (pa_cons (c_call C_law_tap (hr.mono (by omega)) pass0 (pa_cons (pv 0) (pa_cons pe_int pa_nil))) (pa_cons (c_call C_law_tap (hr.mono (by omega)) pass0 (pa_cons (pv 0) (pa_cons pe_int pa_nil))) pa_nil))) (by rfl))
    (pss_cons (ps_par (i := 5) (j := 6) (by rfl) sc_law_long.nd rfl rfl (by decide) rfl rfl (pa_cons (pe_lst pa_nil) (pa_cons (pe_lst pa_nil) pa_nil)) (by rfl))
    (pss_cons (ps_for PassesOwn.never rfl (pi_enum (by rfl) T.enumerate (pa_cons (pv 1) pa_nil)) (pg_tup rfl (pgs_cons (pg_name (i := 7) sc_law_long.nd rfl (Or.inl rfl)) (pgs_cons (pg_tup rfl (pgs_cons (pg_name (i := 8) sc_law_long.nd rfl (Or.inl rfl)) (pgs_cons (pg_name (i := 9) sc_law_long.nd rfl (Or.inl rfl)) pgs_nil))) pgs_nil))) (pss_cons (ps_set (i := 10) sc_law_long.nd rfl (Or.inl rfl) (pe_cmpR op_eq (pe_op op_modN (pv 7) pe_int) (pe_ix (k_ixL (K := K) rfl) (pe_lst (pa_cons (pe_op op_sub pe_int (pv 3)) (pa_cons (pv 3) pa_nil))) (pe_callTy call_int1 (by rfl) T.int (by decide +kernel) (pa_cons (pe_cmpR op_lt (pv 7) (pv 2) (nomark _)) pa_nil)) (fun _ _ => rfl)) (nomark _)))
    (pss_cons (ps_if (pt_val (pv 10)) (pss_one (ps_expr (pe_bm PySem.F.plainAttrs_list PySem.F.slot_list_append PySem.F.type_list_append mt_append (pv 6) (pa_cons (pv 7) pa_nil)))) pss_nil)
    (pss_one (ps_expr (pe_bm PySem.F.plainAttrs_list PySem.F.slot_list_append PySem.F.type_list_append mt_append (pv 5) (pa_cons (pe_tup (pa_cons (pe_and (pe_not (pv 10)) (pe_one (pe_cmpR op_lt (c_call C_law_tap (hr.mono (by omega)) pass0 (pa_cons (pv 0) (pa_cons pe_int pa_nil))) (pv 4) (nomark _)))) (pa_cons (pe_callB (call_max2 rfl) (by rfl) T.max (by decide +kernel) (pa_cons (pv 9) (pa_cons (pe_callTy call_int1 (by rfl) T.int (by decide +kernel) (pa_cons (pv 10) pa_nil)) pa_nil))) pa_nil))) pa_nil)))))))
    (pss_one (ps_ret (pe_lst (pa_cons (pv 5) (pa_cons (pv 6) pa_nil)))))))), ?_⟩
  have lrs : (rs.map V.ref).length = cs.length := by rw [List.length_map, hC.len]
  refine ⟨.ref p, rfl, .ref S, rfl, S, _, rfl, .inl (SqL.of hC.at_), _, 1, rfl, rfl, p, _, n, rfl, hp, by omega, by omega, by omega, fun r1 H1 s1 a1 x1 => ?_⟩
  refine ⟨.ref p, rfl, p, 2, n - 1, rfl, s1.b, by omega, by decide, by decide, fun r2 H2 s2 a2 x2 => ?_⟩
  have s3 := s1.trans s2
  refine ⟨.ref p, rfl, p, 3, n - 1 - 1, rfl, s3.b, by omega, by decide, by decide, fun r3 H3 s4 a3 x3 => ⟨_, _, _, rfl, ?_⟩⟩
  have s5 := s3.trans s4
  refine ⟨Nat.zero_le _, fun F hF => ⟨Nat.zero_le _, fun W hW => ⟨_, _, rfl, ?_⟩⟩⟩
  have nF : H F = none := s5.free hF
  have s6 := s5.new (o := .lst []) hF
  have nW : H W = none := s6.free hW
  have s7 := s6.new (o := .lst []) hW
  have nFW : F ≠ W := fun z => by
    rw [← z, upd_same] at hW
    cases hW
  have eF0 : upd (upd H3 F (.lst [])) W (.lst []) F = some (.lst []) := by rw [upd_ne nFW]; exact upd_same
  refine ⟨.ref S, rfl, S, _, rfl, SqL.of (s7.lst hC.at_), ?_⟩
  refine for_it (walk_enum (xs := rs.map V.ref)) (LgI p S F W H n r1 r2 r3)
    ⟨none, none, none, none, [], [], [], _, rfl, s7, by omega, Cells.nil eF0, upd_same, rfl, Nat.le_refl _, ⟨fun z hz => (by cases hz), List.Pairwise.nil, fun z hz => (by cases hz)⟩, fun c hc => (by cases hc)⟩ (fun i σ H' _ ⟨_, _, _, _, _, _, _, _, _, t, _⟩ => SqL.of (t.lst hC.at_)) ?_ ?_
  · rintro i x σ H4 H4' hi ⟨v7, v8, v9, v10, rs', cs', ws, n', rfl, t1, hn', hC', eW, lc, lw, ok, hb⟩ ⟨t, y1, y2, rfl, nt, rfl, e1, e2⟩
    cases (Option.some.inj e1 : V.int (i : Nat) = y1)
    rw [lrs] at hi
    obtain ⟨r, rfl, hi2, er2⟩ := (hC.sr t1).item e2
    obtain ⟨c, hc⟩ : ∃ c, c = cs.getD i (false, 0) := ⟨_, rfl⟩
    have cb : 0 ≤ c.2 ∧ c.2 ≤ 99 := by
      rw [hc, List.getD_eq_getElem?_getD, List.getElem?_eq_getElem hi2]
      exact hb0 _ (List.getElem_mem hi2)
    rw [← hc] at er2
    obtain ⟨hh, lf⟩ := c
    have u0 := same_new (o := .tup [.int (i : Nat), .ref r]) nt
    have t2 := t1.new (o := .tup [.int (i : Nat), .ref r]) nt
    refine ⟨t, _, rfl, SqT.of upd_same, rfl, _, _, rfl, _, [], rfl, r, _, rfl, SqT.of (u0 _ _ er2), rfl, _, _, rfl, _, [], rfl, rfl, rfl, ?_⟩
    have hC4 := hC'.same u0
    have eW4 := u0 _ _ eW
    generalize upd H4 t (.tup [.int (i : Nat), .ref r]) = H5 at t2 hC4 eW4
    clear u0
    refine ⟨.int (i : Nat), rfl, _, 2, rfl, rfl, (show (2 : Int) ≠ 0 by decide), .int r2, rfl, 1, r2, rfl, rfl, .int r2, rfl, (by show 2 ≤ sizeLine; decide), fun l1 nl1 => ?_⟩
    have v1 := same_new (o := .lst [.int (1 - r2), .int r2]) nl1
    refine ⟨.int (i : Nat), rfl, .int r1, rfl, _, _, rfl, rfl, .inr ⟨_, rfl, ?_⟩⟩
    obtain ⟨md, em, mm⟩ := pick (xs := [1 - r2, r2]) (r := if decide ((i : Int) < r1) = true then 1 else 0) (by split <;> decide) (show (if decide ((i : Int) < r1) = true then (1 : Int) else 0) < 2 by split <;> decide)
    refine ⟨l1, _, _, .int md, rfl, rfl, SqL.of upd_same, em, rfl, ?_⟩
    obtain ⟨lk, hlk⟩ : ∃ lk, lk = decide (V.int (((i : Nat) : Int).fmod 2) = V.int md) := ⟨_, rfl⟩
    rw [← hlk]
    have t3 := t2.then v1
    have hC5 := hC4.same v1
    have eW5 := v1 _ _ eW4
    generalize upd H5 l1 (.lst [.int (1 - r2), .int r2]) = H6 at t3 hC5 eW5
    clear v1
    dsimp only [gName, tSeq]
    refine with_nx (t := tIfS _ _ _) (fun σ H' => ∃ ws' : List Int, σ = [some (.ref p), some (.ref S), some (.int r1), some (.int r2), some (.int r3), some (.ref F), some (.ref W), some (.int (i : Nat)), some (.bl hh), some (.int lf), some (.bl lk)] ∧ Sr p n n' H H' ∧ Cells H' F rs' cs' ∧ H' W = some (.lst (ws'.map V.int)) ∧ ws'.length ≤ i + 1 ∧ (if lk = true then ws' = ws ++ [(i : Int)] else ws' = ws)) ?_ (fun rest => ?_)
    · rintro σ H7 ⟨ws', rfl, t4, hC7, eW7, lw7, hws⟩
      have rows_b : ∀ {h2 : Bool} {l2 : Int}, (lk = true → h2 = false) → 0 ≤ l2 → l2 ≤ 99 → WOk (cs' ++ [(h2, l2)]) ws' ∧ ∀ c ∈ cs' ++ [(h2, l2)], 0 ≤ c.2 ∧ c.2 ≤ 99 := fun {h2 l2} e0 g1 g2 => by
        have lc15 : (cs' ++ [(h2, l2)]).length = i + 1 := by rw [List.length_append, lc] <;> rfl
        have ok15 : WOk (cs' ++ [(h2, l2)]) ws := ⟨fun z hz => by
            have := ok.b z hz
            omega, ok.r, fun z hz => by
            have := ok.b z hz
            rw [getD_app (by omega)]
            exact ok.w z hz⟩
        constructor
        · cases hlk2 : lk with
          | false =>
            rw [hlk2, if_neg Bool.false_ne_true] at hws
            rw [hws]
            exact ok15
          | true =>
            rw [hlk2, if_pos rfl] at hws
            rw [hws]
            refine ⟨fun z hz => ?_, pw_app ok.r fun x hx => ?_, fun z hz => ?_⟩
            · rcases List.mem_append.mp hz with h | h
              · exact ok15.b z h
              · rw [List.mem_singleton.mp h]
                omega
            · have := ok.b x hx
              omega
            · rcases List.mem_append.mp hz with h | h
              · exact ok15.w z h
              · rw [List.mem_singleton.mp h, Int.toNat_natCast, ← lc, getD_last]
                exact e0 hlk2
        · intro c hc
          rcases List.mem_append.mp hc with h | h
          · exact hb c h
          · rw [List.mem_singleton.mp h]
            exact ⟨g1, g2⟩
      have fin : ∀ {n2 : Nat} {H8 : Hp} {h2 : Bool} {l2 : Int} {tt : Addr}, Sr p n n2 H H8 → n ≤ n2 + 3 + (i + 1) → Cells H8 F rs' cs' → H8 W = some (.lst (ws'.map V.int)) → (lk = true → h2 = false) → 0 ≤ l2 → l2 ≤ 99 → H8 tt = none →
          LgI p S F W H n r1 r2 r3 (i + 1) [some (V.ref p), some (.ref S), some (.int r1), some (.int r2), some (.int r3), some (.ref F), some (.ref W), some (.int (i : Nat)), some (.bl hh), some (.int lf), some (.bl lk)] (upd (upd H8 tt (.tup [.bl h2, .int l2])) F (.lst (rs'.map V.ref ++ [.ref tt]))) := fun {n2 H8 h2 l2 tt} t5 g0 hC8 eW8 g1 g2 g3 ntt => by
        obtain ⟨o1, o2⟩ := rows_b g1 g2 g3
        refine ⟨_, _, _, _, _, _, ws', _, rfl, (t5.new ntt).mut nF, g0, hC8.push ntt (h2, l2), ?_, by rw [List.length_append, lc] <;> rfl, lw7, o1, o2⟩
        rw [upd_ne nFW.symm]
        exact (same_new ntt) _ _ eW8
      refine ⟨.ref F, rfl, .inl ⟨rfl, _, SqL.of hC7.at_⟩, ?_⟩
      cases lk with
      | true =>
        refine ⟨.bl true, rfl, true, rfl, false, rfl, iteF ?_⟩
        refine ⟨.int lf, rfl, .bl true, rfl, .inr ⟨_, rfl, lf, _, rfl, (by show 2 ≤ sizeLine; decide), fun tt ntt => ?_⟩⟩
        refine ⟨F, _, _, rfl, rfl, (same_new ntt) _ _ hC7.at_, by rw [List.length_map, hC7.len]; exact long_ok (by omega), ?_⟩
        exact fin t4 (by omega) hC7 eW7 (fun _ => rfl) (by split <;> omega) (by split <;> omega) ntt
      | false =>
        refine ⟨.bl false, rfl, false, rfl, true, rfl, iteT ?_⟩
        refine ⟨.ref p, rfl, p, 20, n', rfl, t4.b, by omega, by decide, by decide, fun q1 H8 t5 y1 z1 => ⟨.int r3, rfl, _, _, rfl, rfl, ?_⟩⟩
        refine ⟨.int lf, rfl, .bl false, rfl, .inr ⟨_, rfl, lf, _, rfl, (by show 2 ≤ sizeLine; decide), fun tt ntt => ?_⟩⟩
        refine ⟨F, _, _, rfl, rfl, (same_new ntt) _ _ (hC7.sr t5).at_, by rw [List.length_map, hC7.len]; exact long_ok (by omega), ?_⟩
        exact fin (t4.trans t5) (by omega) (hC7.sr t5) (t5.lst eW7) (fun z => nomatch z) (by split <;> omega) (by split <;> omega) ntt
    · refine ⟨.bl lk, rfl, lk, rfl, ?_⟩
      cases lk with
      | true =>
        refine iteT ⟨.ref W, rfl, .inl ⟨rfl, _, SqL.of eW5⟩, .int (i : Nat), rfl, W, _, _, rfl, rfl, eW5, by rw [List.length_map]; exact long_ok (by omega), ?_⟩
        exact rest _ _ ⟨ws ++ [(i : Int)], rfl, t3.mut nW, hC5.aside nFW.symm eW5, by rw [upd_same, List.map_append] <;> rfl, by rw [List.length_append]; exact Nat.succ_le_succ lw, rfl⟩
      | false => exact iteF (rest _ _ ⟨ws, rfl, t3, hC5, eW5, Nat.le_succ_of_le lw, rfl⟩)
  · rintro σ H4 ⟨v7, v8, v9, v10, rs', cs', ws, n', rfl, t1, hn', hC', eW, lc, lw, ok, hb⟩
    refine ⟨.ref F, rfl, .ref W, rfl, (by show 2 ≤ sizeLine; decide), fun q nq => ?_⟩
    have sq := same_new (o := .lst [.ref F, .ref W]) nq
    exact k q F W _ n' rs' cs' ws (by omega) (t1.new nq) nF nW nFW (t1.free nq) upd_same ⟨hC'.same sq, sq _ _ eW, by omega, by omega, ok.b⟩ ok hb (by omega)
/-- a drawn strip, and a wish of it, new lists -/
def sp_jsized : Sp := fun vs H Q _ => ∃ (p : Addr) (n : Nat), vs = [.ref p] ∧ H p = some (rl n p) ∧ 5000 ≤ n ∧
  ∀ (q S W : Addr) (H' : Hp) (n' : Nat) (rs : List Addr) (cs : List (Bool × Int)) (ws : List Int), n ≤ n' + 5000 → Sr p n n' H H' → H S = none → H W = none → S ≠ W → H q = none → H' q = some (.lst [.ref S, .ref W]) → Wish H' S W rs cs ws → WOk cs ws → (∀ c ∈ cs, 0 ≤ c.2 ∧ c.2 ≤ 99) →
    1 ≤ cs.length → cs.length ≤ 200 → Q (.ref q) H'
theorem ok_jsized {f : Addr} {fd : FuncData} (o : Own K mg "_law_sized" s_law_sized ["jar"] f fd) (T : Txt mg) (C_law_tap : Cal P w K mg base CX0 1 "_law_tap" s_law_tap ["jar", "wide"] sp_pull)
    (C_law_row : Cal P w K mg base CX0 2 "_law_row" s_law_row ["jar", "most", "bears"] sp_jrow) (C_law_want : Cal P w K mg base CX0 2 "_law_want" s_law_want ["jar", "row"] sp_jwant) (C_law_long : Cal P w K mg base CX0 2 "_law_long" s_law_long ["jar", "row"] sp_jlong) :
    Cal P w K mg base CX0 3 "_law_sized" s_law_sized ["jar"] sp_jsized := by
  refine ⟨f, fd, o, ?_⟩
  refine Dok.calm o.F sc_law_sized (fun vs H Q E h => ?_) (fun cdv A outer s H vs Q E hr h => ?_)
  · obtain ⟨p, n, rfl, _⟩ := h
    rfl
  obtain ⟨p, n, rfl, hp, hn, k⟩ := h
  refine ⟨_, (pss_cons (ps_set (i := 1) sc_law_sized.nd rfl (Or.inl rfl) (pe_ix (k_ixL (K := K) rfl) (pe_lst (pa_cons pe_int (pa_cons pe_int (pa_cons pe_int pa_nil)))) (c_call C_law_tap (hr.mono (by omega)) pass0 (pa_cons (pv 0) (pa_cons pe_int pa_nil))) (fun _ _ => rfl)))
    (pss_cons (ps_set (i := 2) sc_law_sized.nd rfl (Or.inl rfl) (c_call C_law_row (hr.mono (by omega)) pass0 (pa_cons (pv 0) (pa_cons (pv 1) (pa_cons (pe_ix (k_ixL (K := K) rfl) (pe_lst (pa_cons pe_int (pa_cons pe_int (pa_cons pe_int pa_nil)))) (c_call C_law_tap (hr.mono (by omega)) pass0 (pa_cons (pv 0) (pa_cons pe_int pa_nil))) (fun _ _ => rfl)) pa_nil)))))
    (pss_cons (ps_set (i := 3) sc_law_sized.nd rfl (Or.inl rfl) (c_call C_law_want (hr.mono (by omega)) pass0 (pa_cons (pv 0) (pa_cons (pv 2) pa_nil))))
    (pss_one (ps_ret (pe_ifExp (pt_cmpR op_eq (c_call C_law_tap (hr.mono (by omega)) pass0 (pa_cons (pv 0) (pa_cons pe_int pa_nil))) pe_int (nomark _)) (c_call C_law_long (hr.mono (by omega)) pass0 (pa_cons (pv 0) (pa_cons (pv 2) pa_nil))) (pe_lst (pa_cons (pv 2) (pa_cons (pv 3) pa_nil))))))))), ?_⟩
  refine ⟨(by show 3 ≤ sizeLine; decide), fun l1 hl1 => ?_⟩
  have s1 := (Sr.refl hp).new (o := .lst [.int 6, .int 30, .int 200]) hl1
  refine ⟨.ref p, rfl, p, 3, n, rfl, s1.b, by omega, by decide, by decide, fun r1 H1 s2 a1 x1 => ?_⟩
  obtain ⟨sz, ev, mv⟩ := pick (xs := [6, 30, 200]) a1 (show r1 < 3 from x1)
  have sz1 : 1 ≤ sz ∧ sz ≤ 200 := by
    simp only [List.mem_cons, List.not_mem_nil, or_false] at mv
    rcases mv with rfl | rfl | rfl <;> omega
  refine ⟨l1, _, r1, .int sz, rfl, rfl, SqL.of (s2.lst upd_same), ev, ?_⟩
  have s3 := s1.trans s2
  refine ⟨.ref p, rfl, .int sz, rfl, (by show 3 ≤ sizeLine; decide), fun l2 hl2 => ?_⟩
  have s4 := s3.new (o := .lst [.int 1, .int 3, .int 99]) hl2
  refine ⟨.ref p, rfl, p, 3, n - 1, rfl, s4.b, by omega, by decide, by decide, fun r2 H2 s5 a2 x2 => ?_⟩
  obtain ⟨br, ev2, mv2⟩ := pick (xs := [1, 3, 99]) a2 (show r2 < 3 from x2)
  have br1 : 1 ≤ br ∧ br ≤ 99 := by
    simp only [List.mem_cons, List.not_mem_nil, or_false] at mv2
    rcases mv2 with rfl | rfl | rfl <;> omega
  refine ⟨l2, _, r2, .int br, rfl, rfl, SqL.of (s5.lst upd_same), ev2, ?_⟩
  have s6 := s4.trans s5
  refine ⟨p, sz, br, n - 1 - 1, rfl, s6.b, by omega, by omega, by omega, by omega, by omega, fun S H3 n3 rs cs g1 s7 nS hC hb l1' l2' => ?_⟩
  have s8 := s6.trans s7
  refine ⟨.ref p, rfl, .ref S, rfl, p, S, n3, rs, cs, rfl, s8.b, by omega, hC, by omega, fun W H4 n4 ws g2 s9 nW hW ok => ?_⟩
  have s10 := s8.trans s9
  refine ⟨.ref p, rfl, p, 6, n4, rfl, s10.b, by omega, by decide, by decide, fun r3 H5 s11 a3 x3 => ⟨rfl, _, rfl, ite2 (fun _ => ?_) (fun _ => ?_)⟩⟩
  · have s12 := s10.trans s11
    refine ⟨.ref p, rfl, .ref S, rfl, p, S, n4 - 1, rs, cs, rfl, s12.b, by omega, (hW.sr s11).c, by omega, fun c hc => ?_, fun q S' W' H6 n5 rs' cs' ws' g3 s13 nS' nW' nSW nq eq hW' ok' hb' lc' => ?_⟩
    · have := hb c hc
      omega
    · exact k q S' W' H6 n5 rs' cs' ws' (by omega) (s12.trans s13) (s12.free nS') (s12.free nW') nSW (s12.free nq) eq hW' ok' hb' (by omega) (by omega)
  · have s12 := s10.trans s11
    refine ⟨.ref S, rfl, .ref W, rfl, (by show 2 ≤ sizeLine; decide), fun q nq => ?_⟩
    have sq := same_new (o := .lst [.ref S, .ref W]) nq
    exact k q S W _ (n4 - 1) rs cs ws (by omega) (s12.new nq) (s6.free nS) (s8.free nW) (ne_of_none hC.at_ nW) (s12.free nq) upd_same ((hW.sr s11).same sq) ok (fun c hc => by
      have := hb c hc
      omega) (by omega) (by omega)
end
abbrev s_law_bears : Stmt := topS 18
theorem sc_law_bears : FnScope ["row", "want", "holed", "left", "found", "cell"] ["row", "want"] (defScope s_law_bears) := ⟨rfl, rfl, rfl, by decide +kernel, rfl, by decide +kernel, by decide +kernel⟩

abbrev s_law_both : Stmt := topS 19
theorem sc_law_both : FnScope ["row", "want", "bears", "parity", "cell", "both"] ["row", "want"] (defScope s_law_both) := ⟨rfl, rfl, rfl, by decide +kernel, rfl, by decide +kernel, by decide +kernel⟩

abbrev s_law_top : Stmt := topS 20
theorem sc_law_top : FnScope ["row", "want", "found", "numbers", "here", "number"] ["row", "want"] (defScope s_law_top) := ⟨rfl, rfl, rfl, by decide +kernel, rfl, by decide +kernel, by decide +kernel⟩

abbrev s_law_torn : Stmt := topS 21
theorem sc_law_torn : FnScope ["row", "want", "cell"] ["row", "want"] (defScope s_law_torn) := ⟨rfl, rfl, rfl, by decide +kernel, rfl, by decide +kernel, by decide +kernel⟩

section
variable {P : Program} {w : World} {K : PySem.W.Frag} {mg : Str → Option Value} {base : Heap}
/-- how often each cell may be punched: a new list -/
def sp_jbears : Sp := fun vs H Q _ => ∃ (a y : Addr) (rs : List Addr) (cs : List (Bool × Int)) (ws : List Int), vs = [.ref a, .ref y] ∧ Wish H a y rs cs ws ∧ ∀ q H', H q = none → Same H H' → H' q = some (.lst ((mostL cs ws).map V.int)) → Q (.ref q) H'
theorem ok_jbears {f : Addr} {fd : FuncData} (o : Own K mg "_law_bears" s_law_bears ["row", "want"] f fd) (T : Txt mg) : Cal P w K mg base CX0 1 "_law_bears" s_law_bears ["row", "want"] sp_jbears := by
  refine ⟨f, fd, o, ?_⟩
  refine Dok.calm o.F sc_law_bears (fun vs H Q E h => ?_) (fun cdv A outer s H vs Q E hr h => ?_)
  · obtain ⟨a, y, rs, cs, ws, rfl, _⟩ := h
    rfl
  obtain ⟨a, y, rs, cs, ws, rfl, hW, k⟩ := h
  refine ⟨_, (pss_cons (ps_setLc (i := 4) (own := [("holed", 2), ("left", 3)]) (g := (gTup K 2 (gCons (gName 2) (gCons (gName 3) gNil)))) (by rfl) sc_law_bears.nd rfl rfl (sw_true rfl rfl rfl (by decide +kernel)) (pi_list (pv 0)) (blkOk_by (own := [("holed", 2), ("left", 3)]) (N := ["row", "want", "holed", "left", "found", "cell"]) (sc := defScope s_law_bears) (by decide +kernel)) (fun _ _ _ _ _ => (pg_tup rfl (pgs_cons (pg_name (i := 2) sc_law_bears.nd rfl (Or.inl rfl)) (pgs_cons (pg_name (i := 3) sc_law_bears.nd rfl (Or.inl rfl)) pgs_nil)))) (fun _ _ _ _ _ => pts_nil) (fun _ _ _ _ _ => (pe_ifExp (pt_val (pv 2)) (pv 3) pe_int)))
    (pss_cons (ps_for PassesOwn.never rfl (pi_list (pv 1)) (pg_name (i := 5) sc_law_bears.nd rfl (Or.inl rfl)) (pss_one (ps_asg (pe_ix (k_ixT (K := K) rfl) (pe_ix (k_ixL (K := K) rfl) (pv 0) (pv 5) (fun _ _ => rfl)) pe_int (fun _ _ => rfl)) (pg_sub (pv 4) (pv 5) set_list))))
    (pss_one (ps_ret (pv 4))))), ?_⟩
  have lrs : (rs.map V.ref).length = cs.length := by rw [List.length_map, hW.c.len]
  have hl := hW.l
  refine ⟨.ref a, rfl, a, rfl, ⟨_, SqL.of hW.c.at_⟩, fun D hD => ?_⟩
  refine lc_it (walk_list (xs := rs.map V.ref)) (fun i H' => Same H H' ∧ H' D = some (.lst (((mostN cs ws 0).take i).map V.int))) ⟨same_new hD, upd_same⟩ (fun _ _ _ e => SqL.of (e.1 _ _ hW.c.at_)) ?_ ?_
  · rintro i x H2 H2' hi ⟨s2, eD⟩ ⟨rfl, ex⟩
    obtain ⟨r, rfl, hir, er⟩ := (hW.c.same s2).item ex
    have e0 : (mostN cs ws 0)[i]? = some (mostAt cs [] i) := by
      unfold mostN
      rw [List.getElem?_map, List.getElem?_range hir] <;> rfl
    obtain ⟨c, hc⟩ : ∃ c, c = cs.getD i (false, 0) := ⟨_, rfl⟩
    rw [← hc] at er
    have em : mostAt cs [] i = if c.1 = true then c.2 else 0 := by
      unfold mostAt
      rw [hc]
      simp
    refine ⟨r, _, rfl, SqT.of er, rfl, _, _, rfl, _, [], rfl, rfl, rfl, tyes (iteT ?_)⟩
    have fin : ∀ z : Int, z = mostAt cs [] i → (((mostN cs ws 0).take i).map V.int).length < sizeLine ∧ Same H (upd H2' D (.lst (((mostN cs ws 0).take i).map V.int ++ [.int z]))) ∧ upd H2' D (.lst (((mostN cs ws 0).take i).map V.int ++ [.int z])) D = some (.lst (((mostN cs ws 0).take (i + 1)).map V.int)) := by
      rintro z rfl
      refine ⟨by rw [List.length_map, List.length_take, mostN_len]; exact long_ok (by omega), same_mut s2 hD, ?_⟩
      rw [upd_same, List.take_add_one, e0, List.map_append] <;> rfl
    cases h1 : c.1 with
    | true =>
      obtain ⟨x1, x2⟩ := fin c.2 (by rw [em, h1, if_pos rfl])
      exact ⟨_, rfl, true, rfl, iteT ⟨.int c.2, rfl, _, eD, x1, x2⟩⟩
    | false =>
      obtain ⟨x1, x2⟩ := fin 0 (by rw [em, h1, if_neg Bool.false_ne_true])
      exact ⟨_, rfl, false, rfl, iteF ⟨_, eD, x1, x2⟩⟩
  rintro H2 ⟨s2, eD⟩
  rw [lrs, ← mostN_len cs ws 0, List.take_length] at eD
  refine ⟨.ref y, rfl, y, rfl, ⟨_, SqL.of (s2 _ _ hW.w)⟩, ?_⟩
  have lw : (ws.map V.int).length = ws.length := List.length_map ..
  refine for_it (walk_list (xs := ws.map V.int)) (fun j σ H' => ∃ v3 v4 v5 : Option V, σ = [some (.ref a), some (.ref y), v3, v4, some (.ref D), v5] ∧ Same H H' ∧ H' D = some (.lst ((mostN cs ws j).map V.int))) ⟨_, _, _, rfl, s2, eD⟩ (fun _ _ _ _ ⟨_, _, _, _, s, _⟩ => SqL.of (s _ _ hW.w)) ?_ ?_
  · rintro j x σ H3 H3' hj ⟨v3, v4, v5, rfl, s3, eD3⟩ ⟨rfl, ex⟩
    obtain ⟨z, ez, rfl⟩ := ints_at ex
    obtain ⟨z0, z1⟩ := hW.b z (List.mem_of_getElem? ez)
    obtain ⟨r, e1, e2⟩ := (hW.c.same s3).atI z0 z1
    obtain ⟨m, rfl⟩ := Int.eq_ofNat_of_zero_le z0
    have hm : m < cs.length := by omega
    rw [Int.toNat_natCast] at e2
    refine ⟨.ref a, rfl, .int (m : Int), rfl, a, _, _, .ref r, rfl, rfl, SqL.of (s3 _ _ hW.c.at_), e1, r, _, 1, .int _, rfl, rfl, SqT.of e2, rfl, ?_⟩
    refine ⟨.ref D, rfl, .int (m : Int), rfl, D, _, _, m, rfl, rfl, eD3, ixn (by rw [List.length_map, mostN_len]; exact hm), ?_⟩
    refine ⟨_, _, _, rfl, same_mut s3 hD, ?_⟩
    rw [upd_same, ← List.map_set, mostN_succ hm ez]
  · rintro σ H3 ⟨v3, v4, v5, rfl, s3, eD3⟩
    rw [lw, mostN_all] at eD3
    exact ⟨.ref D, rfl, k D H3 hD s3 eD3⟩
/-- the wished cells without a pass: a new list -/
def sp_jtorn : Sp := fun vs H Q _ => ∃ (a y : Addr) (rs : List Addr) (cs : List (Bool × Int)) (ws : List Int), vs = [.ref a, .ref y] ∧ Wish H a y rs cs ws ∧ ∀ q H', H q = none → Same H H' → H' q = some (.lst ((tornL cs ws).map V.int)) → Q (.ref q) H'
theorem ok_jtorn {f : Addr} {fd : FuncData} (o : Own K mg "_law_torn" s_law_torn ["row", "want"] f fd) (T : Txt mg) : Cal P w K mg base CX0 1 "_law_torn" s_law_torn ["row", "want"] sp_jtorn := by
  refine ⟨f, fd, o, ?_⟩
  refine Dok.calm o.F sc_law_torn (fun vs H Q E h => ?_) (fun cdv A outer s H vs Q E hr h => ?_)
  · obtain ⟨a, y, rs, cs, ws, rfl, _⟩ := h
    rfl
  obtain ⟨a, y, rs, cs, ws, rfl, hW, k⟩ := h
  refine ⟨_, (pss_one (ps_ret (pe_lc (own := [("cell", 2)]) (g := (gName 2)) (by rfl) sc_law_torn.nd (pi_list (pv 1)) (blkOk_by (own := [("cell", 2)]) (N := ["row", "want", "cell"]) (sc := defScope s_law_torn) (by decide +kernel)) (fun _ _ _ _ _ => (pg_name (i := 2) sc_law_torn.nd rfl (Or.inl rfl))) (fun _ _ _ _ _ => (pts_one (pt_cmpR op_eq (pe_ix (k_ixT (K := K) rfl) (pe_ix (k_ixL (K := K) rfl) (pv 0) (pv 2) (fun _ _ => rfl)) pe_int (fun _ _ => rfl)) pe_int (nomark _)))) (fun _ _ _ _ _ => (pv 2))))), ?_⟩
  have lw := hW.lw
  refine ⟨.ref y, rfl, y, rfl, ⟨_, SqL.of hW.w⟩, fun D hD => ?_⟩
  refine lc_it (walk_list (xs := ws.map V.int)) (fun i H' => Same H H' ∧ H' D = some (.lst ((tornL cs (ws.take i)).map V.int))) ⟨same_new hD, upd_same⟩ (fun _ _ _ e => SqL.of (e.1 _ _ hW.w)) ?_ ?_
  · rintro i x H2 H2' hi ⟨s2, eD⟩ ⟨rfl, ex⟩
    obtain ⟨z, ez, rfl⟩ := ints_at ex
    obtain ⟨z0, z1⟩ := hW.b z (List.mem_of_getElem? ez)
    obtain ⟨r, e1, e2⟩ := (hW.c.same s2).atI z0 z1
    have et : ws.take (i + 1) = ws.take i ++ [z] := by rw [List.take_add_one, ez] <;> rfl
    refine ⟨rfl, .ref a, rfl, .int z, rfl, a, _, _, .ref r, rfl, rfl, SqL.of (s2 _ _ hW.c.at_), e1, r, _, 1, .int _, rfl, rfl, SqT.of e2, rfl, rfl, ?_⟩
    by_cases c0 : (cs.getD z.toNat (false, 0)).2 = 0
    · refine ⟨true, bl_tt (by rw [c0]), iteT ⟨.int z, rfl, _, eD, ?_, same_mut s2 hD, ?_⟩⟩
      · rw [List.length_map]
        refine long_ok (Nat.le_trans (List.length_filter_le _ _) ?_)
        rw [List.length_take]
        omega
      · rw [upd_same, et]
        unfold tornL
        rw [List.filter_append, List.map_append, List.filter_cons, if_pos (by rw [c0] <;> rfl)] <;> rfl
    · refine ⟨false, bl_ff (fun q => c0 (V.int.inj q)), iteF ⟨s2, ?_⟩⟩
      rw [eD, et]
      unfold tornL
      rw [List.filter_append, List.filter_cons, if_neg (by rw [beq_eq_false_iff_ne.mpr c0]; exact Bool.false_ne_true), List.filter_nil, List.append_nil]
  · rintro H2 ⟨s2, eD⟩
    rw [List.length_map, List.take_length] at eD
    exact k D H2 hD s2 eD
end
section
variable {P : Program} {w : World} {K : PySem.W.Frag} {mg : Str → Option Value} {base : Heap}
/-- what each cell counts, for both parities: new lists -/
def sp_jboth : Sp := fun vs H Q _ => ∃ (a y : Addr) (rs : List Addr) (cs : List (Bool × Int)) (ws : List Int), vs = [.ref a, .ref y] ∧ Wish H a y rs cs ws ∧ WOk cs ws ∧ ∀ q H' rr, H q = none → Same H H' → LLs H q H' rr [valL cs ws 0, valL cs ws 1] → Q (.ref q) H'
theorem ok_jboth {f : Addr} {fd : FuncData} (o : Own K mg "_law_both" s_law_both ["row", "want"] f fd) (T : Txt mg) (C_law_bears : Cal P w K mg base CX0 1 "_law_bears" s_law_bears ["row", "want"] sp_jbears) :
    Cal P w K mg base CX0 2 "_law_both" s_law_both ["row", "want"] sp_jboth := by
  refine ⟨f, fd, o, ?_⟩
  refine Dok.calm o.F sc_law_both (fun vs H Q E h => ?_) (fun cdv A outer s H vs Q E hr h => ?_)
  · obtain ⟨a, y, rs, cs, ws, rfl, _⟩ := h
    rfl
  obtain ⟨a, y, rs, cs, ws, rfl, hW, ok, k⟩ := h
  refine ⟨_, (pss_cons (ps_set (i := 2) sc_law_both.nd rfl (Or.inr rfl) (c_call C_law_bears (hr.mono (by omega)) pass0 (pa_cons (pv 0) (pa_cons (pv 1) pa_nil))))
    (pss_cons (ps_setLc (i := 5) (own := [("parity", 3)]) (g := (gName 3)) (by rfl) sc_law_both.nd rfl rfl (sw_true rfl rfl rfl (by decide +kernel)) (pi_range1 rfl T.range (pa_cons pe_int pa_nil)) (blkOk_by (own := [("parity", 3)]) (N := ["row", "want", "bears", "parity", "cell", "both"]) (sc := defScope s_law_both) (by decide +kernel)) (fun _ _ _ _ _ => (pg_name (i := 3) sc_law_both.nd rfl (Or.inr rfl))) (fun _ _ _ _ _ => pts_nil) (fun _ _ _ _ _ => (pe_lc (own := [("cell", 4)]) (g := (gName 4)) (by rfl) sc_law_both.nd (pi_range1 rfl T.range (pa_cons (pe_callB (kc_len (K := K) rfl) (by rfl) T.len (by decide +kernel) (pa_cons (pv 0) pa_nil)) pa_nil)) (blkOk_by (own := [("cell", 4)]) (N := ["row", "want", "bears", "parity", "cell", "both"]) (by rfl)) (fun _ _ _ _ _ => (pg_name (i := 4) sc_law_both.nd rfl (Or.inl rfl))) (fun _ _ _ _ _ => pts_nil) (fun _ _ _ _ _ => (pe_ifExp (pt_cmpR op_eq (pe_op op_modN (pv 4) pe_int) (pv 3) (nomark _)) pe_int (pe_op op_sub pe_int (pe_ix (k_ixL (K := K) rfl) (pv 2) (pv 4) (fun _ _ => rfl))))))))
    (pss_cons (ps_for PassesOwn.never rfl (pi_list (pv 1)) (pg_name (i := 4) sc_law_both.nd rfl (Or.inl rfl)) (pss_one (ps_asg (pe_op op_add (pe_ix (k_ixL (K := K) rfl) (pe_ix (k_ixL (K := K) rfl) (pv 5) (pe_op op_modN (pv 4) pe_int) (fun _ _ => rfl)) (pv 4) (fun _ _ => rfl)) pe_int) (pg_sub (pe_ix (k_ixL (K := K) rfl) (pv 5) (pe_op op_modN (pv 4) pe_int) (fun _ _ => rfl)) (pv 4) set_list))))
    (pss_one (ps_ret (pv 5)))))), ?_⟩
  have lrs : (rs.map V.ref).length = cs.length := by rw [List.length_map, hW.c.len]
  have hl := hW.l
  refine ⟨.ref a, rfl, .ref y, rfl, a, y, rs, cs, ws, rfl, hW, fun B H1 nB s1 eB => ?_⟩
  refine ⟨2, rfl, by decide, by decide, fun D hD => ?_⟩
  refine lc_it walk_range (fun p H' => ∃ rr, Same H1 H' ∧ LLs H D H' rr ((List.range p).map fun p => valN cs ws p 0)) ⟨[], same_new hD, LLs.nil⟩ (fun _ _ _ _ => True.intro) ?_ ?_
  · rintro p x H2 H2' hp ⟨rr, s2, hL⟩ ⟨rfl, rfl⟩
    have hp2 : p < 2 := hp
    have e0 : (0 : Int) + (p : Int) = (p : Int) := Int.zero_add _
    have s12 := s1.trans s2
    refine ⟨rfl, tyes (iteT ?_)⟩
    refine ⟨.ref a, rfl, a, _, rfl, .inl (SqL.of (s12 _ _ hW.c.at_)), _, rfl, by omega, by omega, fun L hL0 => ?_⟩
    refine lc_it walk_range (fun i H' => Same H2' H' ∧ H' L = some (.lst (((valN cs ws p 0).take i).map V.int))) ⟨same_new hL0, upd_same⟩ (fun _ _ _ _ => True.intro) ?_ ?_
    · rintro i x H3 H3' hi ⟨s3, eL⟩ ⟨rfl, rfl⟩
      have hi' : i < cs.length := by
        have : i < ((((rs.map V.ref).length : Nat) : Int)).toNat := hi
        omega
      have s23 := s2.trans s3
      have ev : (valN cs ws p 0)[i]? = some (if (i : Int) % 2 = (p : Int) then 0 else -(mostAt cs ws i)) := by
        unfold valN
        rw [List.getElem?_map, List.getElem?_range hi'] <;> rfl
      have fin : ∀ z : Int, z = (if (i : Int) % 2 = (p : Int) then 0 else -(mostAt cs ws i)) → (((valN cs ws p 0).take i).map V.int).length < sizeLine ∧ Same H2' (upd H3' L (.lst (((valN cs ws p 0).take i).map V.int ++ [.int z]))) ∧ upd H3' L (.lst (((valN cs ws p 0).take i).map V.int ++ [.int z])) L = some (.lst (((valN cs ws p 0).take (i + 1)).map V.int)) := by
        rintro z rfl
        refine ⟨by rw [List.length_map, List.length_take, valN_len]; exact long_ok (by omega), same_mut s3 hL0, ?_⟩
        rw [upd_same, List.take_add_one, ev, List.map_append] <;> rfl
      refine ⟨rfl, tyes (iteT ?_)⟩
      have ei : (0 : Int) + (i : Int) = (i : Int) := Int.zero_add _
      refine ⟨.int (0 + i), rfl, _, 2, rfl, rfl, (show (2 : Int) ≠ 0 by decide), .int (0 + p), rfl, rfl, _, rfl, ite2 (fun g => ?_) (fun g => ?_)⟩
      · have g : (0 + (i : Int)).fmod 2 = 0 + (p : Int) := V.int.inj (of_decide_eq_true g)
        rw [fmod2, ei, e0] at g
        obtain ⟨x1, x2⟩ := fin 0 (by rw [if_pos g])
        exact ⟨_, eL, x1, x2⟩
      · have g : ¬ (i : Int) % 2 = (p : Int) := fun z => g (decide_eq_true (show V.int ((0 + (i : Int)).fmod 2) = V.int (0 + (p : Int)) by rw [fmod2, ei, e0, z]))
        obtain ⟨x1, x2⟩ := fin (0 - mostAt cs ws i) (by rw [if_neg g, Int.zero_sub])
        have eb : atI ((mostL cs ws).map V.int) (0 + (i : Int)) = some (.int (mostAt cs ws i)) := by
          rw [ei]
          refine atI_nat ?_
          unfold mostL
          rw [List.getElem?_map, List.getElem?_map, List.getElem?_range hi'] <;> rfl
        exact ⟨.ref B, rfl, .int (0 + i), rfl, B, _, _, .int _, rfl, rfl, SqL.of (s23 _ _ eB), eb, 0, _, rfl, rfl, _, eL, x1, x2⟩
    · rintro H3 ⟨s3, eL⟩
      have en : (valN cs ws p 0).take ((((rs.map V.ref).length : Nat) : Int)).toNat = valN cs ws p 0 := by
        rw [Int.toNat_natCast, lrs, ← valN_len cs ws p 0, List.take_length]
      rw [en] at eL
      have hL3 := hL.same s3
      have nL : H L = none := s12.free hL0
      refine ⟨_, hL3.at_, ?_, rr ++ [L], same_mut (s2.trans s3) hD, ?_⟩
      · rw [List.length_map, hL3.len, List.length_map, List.length_range]
        exact long_ok (by omega)
      · rw [List.range_succ, List.map_append]
        exact hL3.add hL hL0 nL eL
  rintro H2 ⟨rr, s2, hL⟩
  have nD : H D = none := s1.free hD
  refine ⟨.ref y, rfl, y, rfl, ⟨_, SqL.of ((s1.trans s2) _ _ hW.w)⟩, ?_⟩
  have lw : (ws.map V.int).length = ws.length := List.length_map ..
  refine for_it (walk_list (xs := ws.map V.int)) (fun j σ H' => ∃ v3 v4 : Option V, σ = [some (.ref a), some (.ref y), some (.ref B), v3, v4, some (.ref D)] ∧ Same H H' ∧ LLs H D H' rr [valN cs ws 0 j, valN cs ws 1 j]) ⟨_, _, rfl, s1.trans s2, hL⟩ (fun _ _ _ _ ⟨_, _, _, s, _⟩ => SqL.of (s _ _ hW.w)) ?_ ?_
  · rintro j x σ H3 H3' hj ⟨v3, v4, rfl, s3, hL3⟩ ⟨rfl, ex⟩
    obtain ⟨z, ez, rfl⟩ := ints_at ex
    obtain ⟨z0, z1⟩ := hW.b z (List.mem_of_getElem? ez)
    obtain ⟨m, rfl⟩ := Int.eq_ofNat_of_zero_le z0
    have hm : m < cs.length := by omega
    have em : ((m : Nat) : Int).fmod 2 = ((m % 2 : Nat) : Int) := by
      rw [fmod2]
      omega
    obtain ⟨r, l, g1, g2, g3, g4⟩ := hL3.item (j := m % 2) (show m % 2 < 2 by omega)
    obtain ⟨nr, rD, _⟩ := hL3.get _ _ g1
    have el : l = valN cs ws (m % 2) j := by
      have : m % 2 = 0 ∨ m % 2 = 1 := by omega
      rcases this with h | h <;> rw [h] at g2 ⊢ <;> exact (Option.some.inj g2).symm
    subst el
    have ev : atI ((valN cs ws (m % 2) j).map V.int) ((m : Nat) : Int) = some (.int 0) := by
      rw [← valN_get (p := m % 2) ok.r ez hm (by omega)]
      exact atI_get rfl (by rw [valN_len]; exact hm)
    have two : (show Int from 2) ≠ 0 := by decide
    refine ⟨.ref D, rfl, .int (m : Int), rfl, _, 2, rfl, rfl, two, D, _, _, .ref r, rfl, rfl, SqL.of hL3.at_, by rw [em]; exact g3, .int (m : Int), rfl, r, _, _, .int 0, rfl, rfl, SqL.of g4, ev, 0, 1, rfl, rfl, ?_⟩
    refine ⟨.ref D, rfl, .int (m : Int), rfl, _, 2, rfl, rfl, two, D, _, _, .ref r, rfl, rfl, SqL.of hL3.at_, by rw [em]; exact g3, .int (m : Int), rfl, r, _, _, m, rfl, rfl, g4, ixn (by rw [List.length_map, valN_len]; exact hm), ?_⟩
    refine ⟨_, _, rfl, same_mut s3 nr, ?_⟩
    have hL4 := hL3.put (l := valN cs ws (m % 2) (j + 1)) g1
    rw [← valN_succ hm ez (by omega), List.map_set] at hL4
    have q : m % 2 = 0 ∨ m % 2 = 1 := by omega
    rcases q with h | h
    · rw [h] at hL4 ⊢
      rw [valN_other (p := 1) ez (by omega), ← valN_succ (p := 0) hm ez (by omega)]
      exact hL4
    · rw [h] at hL4 ⊢
      rw [valN_other (p := 0) ez (by omega), ← valN_succ (p := 1) hm ez (by omega)]
      exact hL4
  · rintro σ H3 ⟨v3, v4, rfl, s3, hL3⟩
    rw [lw, valN_all, valN_all] at hL3
    exact ⟨.ref D, rfl, k D H3 rr nD s3 (hL3)⟩
/-- the greatest worth of any stretch, the law's way -/
def sp_jgw : Sp := fun vs H Q _ => ∃ (a y : Addr) (rs : List Addr) (cs : List (Bool × Int)) (ws : List Int), vs = [.ref a, .ref y] ∧ Wish H a y rs cs ws ∧ WOk cs ws ∧ ∀ H', Same H H' → Q (.int (gw (bndL cs ws))) H'
def gwp (cs : List (Bool × Int)) (ws : List Int) (q : Nat) : Int := if q = 0 then 0 else if q = 1 then kadB (val (bndL cs ws) 0) 0 cs.length else gw (bndL cs ws)
theorem gwp0 (cs : List (Bool × Int)) (ws : List Int) (q : Nat) : 0 ≤ gwp cs ws q := by
  unfold gwp
  split
  · exact Int.le_refl 0
  · split
    · exact kadB_nonneg (Int.le_refl 0) _
    · exact gw_nonneg _
theorem ok_jgw {f : Addr} {fd : FuncData} (o : Own K mg "_law_top" s_law_top ["row", "want"] f fd) (T : Txt mg) (C_law_both : Cal P w K mg base CX0 2 "_law_both" s_law_both ["row", "want"] sp_jboth) :
    Cal P w K mg base CX0 3 "_law_top" s_law_top ["row", "want"] sp_jgw := by
  refine ⟨f, fd, o, ?_⟩
  refine Dok.calm o.F sc_law_top (fun vs H Q E h => ?_) (fun cdv A outer s H vs Q E hr h => ?_)
  · obtain ⟨a, y, rs, cs, ws, rfl, _⟩ := h
    rfl
  obtain ⟨a, y, rs, cs, ws, rfl, hW, ok, k⟩ := h
  refine ⟨_, (pss_cons (ps_set (i := 2) sc_law_top.nd rfl (Or.inl rfl) (pe_lst (pa_cons pe_int pa_nil)))
    (pss_cons (ps_for PassesOwn.never rfl (pi_list (c_call C_law_both (hr.mono (by omega)) pass0 (pa_cons (pv 0) (pa_cons (pv 1) pa_nil)))) (pg_name (i := 3) sc_law_top.nd rfl (Or.inl rfl)) (pss_cons (ps_set (i := 4) sc_law_top.nd rfl (Or.inl rfl) pe_int)
    (pss_one (ps_for PassesOwn.never rfl (pi_list (pv 3)) (pg_name (i := 5) sc_law_top.nd rfl (Or.inl rfl)) (pss_cons (ps_set (i := 4) sc_law_top.nd rfl (Or.inl rfl) (pe_op op_add (pe_callB (call_max2 rfl) (by rfl) T.max (by decide +kernel) (pa_cons pe_int (pa_cons (pv 4) pa_nil))) (pv 5)))
    (pss_one (ps_expr (pe_bm PySem.F.plainAttrs_list PySem.F.slot_list_append PySem.F.type_list_append mt_append (pv 2) (pa_cons (pv 4) pa_nil)))))))))
    (pss_one (ps_ret (pe_callB (kc_max (K := K) rfl rfl) (by rfl) T.max (by decide +kernel) (pa_cons (pv 2) pa_nil)))))), ?_⟩
  have hl := hW.l
  refine ⟨(by show 1 ≤ sizeLine; decide), fun D hD => ?_⟩
  have s1 := same_new (o := .lst [.int 0]) hD
  have eD : upd H D (.lst [.int 0]) D = some (.lst (([0] : List Int).map V.int)) := upd_same
  generalize upd H D (.lst [.int 0]) = H1 at s1 eD
  refine ⟨.ref a, rfl, .ref y, rfl, a, y, rs, cs, ws, rfl, hW.same s1, ok, fun q H2 rr nq s2 hL => ?_⟩
  refine ⟨q, rfl, ⟨_, SqL.of hL.at_⟩, ?_⟩
  have qD : q ≠ D := (ne_of_none eD nq).symm
  have nqH : H q = none := s1.free nq
  have lrr : (rr.map V.ref).length = 2 := by rw [List.length_map, hL.len] <;> rfl
  refine for_it (walk_list (xs := rr.map V.ref)) (fun p σ H' => ∃ (v3 v4 v5 : Option V) (ns : List Int), σ = [some (.ref a), some (.ref y), some (.ref D), v3, v4, v5] ∧ Same H H' ∧ H' D = some (.lst (ns.map V.int)) ∧ ns.length = 1 + p * cs.length ∧ IsMax ns (gwp cs ws p) ∧ LLs H1 q H' rr [valL cs ws 0, valL cs ws 1]) ⟨none, none, none, [0], rfl, s1.trans s2, s2 _ _ eD, by simp, ⟨List.mem_cons_self, fun y hy => by rw [List.mem_singleton.mp hy]; exact Int.le_refl 0⟩, hL⟩ (fun _ _ _ _ ⟨_, _, _, _, _, _, _, _, _, hL⟩ => SqL.of hL.at_) ?_ ?_
  · rintro p x σ H3 H3' hp ⟨v3, v4, v5, ns, rfl, s3, eD3, lns, hM, hL3⟩ ⟨rfl, ex⟩
    rw [lrr] at hp
    obtain ⟨r, l, g1, g2, g3, g4⟩ := hL3.item (j := p) (show p < 2 by omega)
    rw [List.getElem?_map, g1] at ex
    cases ex
    obtain ⟨nr, rq, _⟩ := hL3.get _ _ g1
    have rD : r ≠ D := (ne_of_none eD nr).symm
    have el : l = valL cs ws p := by
      have : p = 0 ∨ p = 1 := by omega
      rcases this with rfl | rfl <;> exact (Option.some.inj g2).symm
    subst el
    refine ⟨.ref r, rfl, r, rfl, ⟨_, SqL.of g4⟩, ?_⟩
    have lv : ((valL cs ws p).map V.int).length = cs.length := by rw [List.length_map, valL_len]
    refine for_it (walk_list (xs := (valL cs ws p).map V.int)) (fun i σ H' => ∃ (h : Int) (v5 : Option V) (ns : List Int), σ = [some (.ref a), some (.ref y), some (.ref D), some (.ref r), some (.int h), v5] ∧ Same H H' ∧ H' D = some (.lst (ns.map V.int)) ∧ ns.length = 1 + p * cs.length + i ∧ IsMax ns (kadB (val (bndL cs ws) p) (gwp cs ws p) i) ∧ (if h > 0 then h else 0) = kadE (val (bndL cs ws) p) i ∧ LLs H1 q H' rr [valL cs ws 0, valL cs ws 1])
      ⟨0, v5, ns, rfl, s3, eD3, lns, hM, rfl, hL3⟩ (fun i σ H' _ ⟨_, _, _, _, _, _, _, _, _, hL⟩ => by
        obtain ⟨r', l', x1, x2, x3, x4⟩ := hL.item (j := p) (show p < 2 by omega)
        rw [g1] at x1
        cases x1
        rw [g2] at x2
        cases x2
        exact SqL.of x4) ?_ ?_
    · rintro i z σ H4 H4' hi ⟨h, v5, ns, rfl, s4, eD4, lns, hM, he, hL4⟩ ⟨rfl, ez⟩
      rw [lv] at hi
      unfold valL at ez
      rw [List.getElem?_map, List.getElem?_map, List.getElem?_range hi] at ez
      cases ez
      refine ⟨.int h, rfl, 0, h, rfl, .int _, rfl, _, _, rfl, rfl, ?_⟩
      obtain ⟨m1, m2⟩ := hM.kad (h := h) (gwp0 cs ws p) he
      have lb : p * cs.length ≤ 1000 := by
        have := Nat.mul_le_mul (show p ≤ 1 by omega) hl
        omega
      refine ⟨.ref D, rfl, .inl ⟨rfl, _, SqL.of eD4⟩, .int _, rfl, D, _, _, rfl, rfl, eD4, by rw [List.length_map]; exact long_ok (by omega), ?_⟩
      refine ⟨_, _, _, rfl, same_mut s4 hD, by rw [upd_same, ← List.map_singleton, ← List.map_append], by rw [List.length_append, lns] <;> rfl, m1, m2, hL4.other qD.symm (by rw [eD]; exact fun z => nomatch z)⟩
    · rintro σ H4 ⟨h, v5, ns, rfl, s4, eD4, lns, hM, he, hL4⟩
      rw [lv] at lns hM
      have eg : kadB (val (bndL cs ws) p) (gwp cs ws p) cs.length = gwp cs ws (p + 1) := by
        have : p = 0 ∨ p = 1 := by omega
        rcases this with rfl | rfl
        · rfl
        · show kadB _ _ _ = gw (bndL cs ws)
          unfold gw
          rw [bndL_len] <;> rfl
      rw [eg] at hM
      exact ⟨_, _, _, ns, rfl, s4, eD4, by rw [lns, Nat.succ_mul]; omega, hM, hL4⟩
  · rintro σ H3 ⟨v3, v4, v5, ns, rfl, s3, eD3, lns, hM, hL3⟩
    rw [lrr] at hM lns
    refine ⟨.ref D, rfl, D, ns, rfl, SqL.of eD3, by omega, fun m m1 m2 => ?_⟩
    rw [IsMax.eq ⟨m1, m2⟩ hM]
    exact k H3 s3
end
abbrev s_cell_without_pass : Stmt := topS 8
theorem sc_cell_without_pass : FnScope ["strip", "wish", "cell"] ["strip", "wish"] (defScope s_cell_without_pass) := ⟨rfl, rfl, rfl, by decide +kernel, rfl, by decide +kernel, by decide +kernel⟩

section
variable {P : Program} {w : World} {K : PySem.W.Frag} {mg : Str → Option Value} {base : Heap} {c Ta : Addr}
def sp_cwp (Ta : Addr) : Sp := fun vs H Q _ => ∃ (a y : Addr) (rs : List Addr) (cs : List (Bool × Int)) (ws : List Int), vs = [.ref a, .ref y] ∧ H Ta = some (TabO Ta) ∧ Wish H a y rs cs ws ∧ Q (oV (torn cs ws)) H
theorem ok_cwp {f : Addr} {fd : FuncData} (o : Own K mg "cell_without_pass" s_cell_without_pass ["strip", "wish"] f fd) (T : Txt mg) (hcode : fd.code = .ref c) (TB : GxR.TabB base mg c Ta) :
    Cal P w K mg base CX0 1 "cell_without_pass" s_cell_without_pass ["strip", "wish"] (sp_cwp Ta) := by
  refine ⟨f, fd, o, ?_⟩
  refine Dok.tabbed (P := Ta) (sp := fun vs H Q _ => ∃ (a y : Addr) (rs : List Addr) (cs : List (Bool × Int)) (ws : List Int), vs = [.ref a, .ref y] ∧ GxR.TabG H Ta ∧ Wish H a y rs cs ws ∧ ∀ H2, GxR.Tabbed Ta H H2 → Q (oV (torn cs ws)) H2) ?_ (fun vs H Q E h => ?_) (fun vs H Q E h => ?_)
  · refine Dok.bodyC hcode o.F sc_cell_without_pass (fun vs H Q E h => ?_) (fun A outer s H vs Q E hr h => ?_)
    · obtain ⟨a, y, rs, cs, ws, rfl, _⟩ := h
      rfl
    obtain ⟨a, y, rs, cs, ws, rfl, hT, hW, k⟩ := h
    have S : ∀ {sc : Scope}, sc.kind = .function → sc.isCoroutine = false → (∀ q ∈ sc.names, q.2 ≠ NameKind.cell) → sc.names.lookup (".0" : Str) = some NameKind.local → sc.names.lookup ("cell" : Str) = some NameKind.local → (∀ q ∈ sc.names, q.2 = NameKind.free → q.1 = ("strip" : Str)) →
        GxR.GenS (envOfC "cell_without_pass" (defScope s_cell_without_pass) s.heap.objs.size f (.ref c)) sc "cell" := fun h1 h2 h3 h4 h5 h6 => ⟨h1, h2, h3, h4, h5, fun q hq e => by rw [h6 q hq e]; exact ⟨_, rfl⟩⟩
    refine ⟨_, pss_one (ps_ret (pe_nextG (c := c) (P := Ta) (j := 0) (xs := "strip") (x := "cell") rfl hr.r (by rfl) T.next TB rfl (S (by rfl) (by rfl) (by decide +kernel) (by rfl) (by rfl) (by decide +kernel)) (by decide +kernel) (by rfl) (by rfl) (by rfl) (pv 1) (by intro _; rfl) (by decide) (by decide) (by decide))), ?_⟩
    exact ⟨.ref y, rfl, y, a, ws, rs, cs, rfl, SqL.of hW.w, rfl, hW.c, hW.b, hW.l, hT, fun H2 hH => k H2 hH⟩
  · obtain ⟨a, y, rs, cs, ws, rfl, _⟩ := h
    rfl
  · obtain ⟨a, y, rs, cs, ws, rfl, hT, hW, k⟩ := h
    refine ⟨hT, fun ts tt => ?_⟩
    have ne : ∀ {b : Addr} {o : HO}, H b = some o → o ≠ TabO Ta → b ≠ Ta := fun e q z => by
      rw [z, hT] at e
      exact q (Option.some.inj e).symm
    refine ⟨a, y, rs, cs, ws, rfl, ⟨ts, upd_same, tt⟩, ⟨⟨by rw [upd_ne (ne hW.c.at_ (fun q => by cases q))]; exact hW.c.at_, hW.c.len, fun j q e => ?_⟩, by rw [upd_ne (ne hW.w (fun q => by cases q))]; exact hW.w, hW.l, hW.lw, hW.b⟩, fun H2 hH => ?_⟩
    · obtain ⟨r, x1, x2⟩ := hW.c.get j q e
      exact ⟨r, x1, by rw [upd_ne (ne x2 (fun q => by cases q))]; exact x2⟩
    · obtain ⟨⟨ts2, e2, t2⟩, hb⟩ := hH
      refine ⟨ts2, e2, t2, ?_⟩
      have eH : upd H2 Ta (TabO Ta) = H := by
        funext b
        by_cases q : b = Ta
        · rw [q, upd_same, hT]
        · rw [upd_ne q, hb b q, upd_ne q]
      rw [eH]
      exact k
end
abbrev s_is_rising : Stmt := topS 3
theorem sc_is_rising : FnScope ["numbers", "end", "ahead", "number"] ["numbers", "end"] (defScope s_is_rising) := ⟨rfl, rfl, rfl, by decide +kernel, rfl, by decide +kernel, by decide +kernel⟩

section
variable {P : Program} {w : World} {K : PySem.W.Frag} {mg : Str → Option Value} {base : Heap}
def sp_is_rising : Sp := fun vs H Q _ => ∃ (a : Addr) (m : Int) (fs : List Int), vs = [.ref a, .int m] ∧ H a = some (.lst (fs.map V.int)) ∧ Q (.bl (risB m (-1) fs)) H
theorem ok_is_rising {f : Addr} {fd : FuncData} (o : Own K mg "is_rising" s_is_rising ["numbers", "end"] f fd) (T : Txt mg) : Cal P w K mg base CX0 1 "is_rising" s_is_rising ["numbers", "end"] sp_is_rising := by
  refine ⟨f, fd, o, ?_⟩
  refine Dok.calm o.F sc_is_rising (fun vs H Q E h => ?_) (fun cdv A outer s H vs Q E hr h => ?_)
  · obtain ⟨a, m, fs, rfl, _⟩ := h
    rfl
  obtain ⟨a, m, fs, rfl, ea, k⟩ := h
  refine ⟨_, (pss_cons (ps_set (i := 2) sc_is_rising.nd rfl (Or.inl rfl) (pe_un un_neg pe_int))
    (pss_cons (ps_for PassesOwn.never rfl (pi_list (pv 0)) (pg_name (i := 3) sc_is_rising.nd rfl (Or.inl rfl)) (pss_cons (ps_if (pt_not (pt_chain op_lt op_lt (pv 2) (pv 3) (pv 1))) (pss_one (ps_ret pe_bl)) pss_nil)
    (pss_one (ps_set (i := 2) sc_is_rising.nd rfl (Or.inl rfl) (pv 3)))))
    (pss_one (ps_ret pe_bl)))), ?_⟩
  have out : ∀ {b : Bool}, risB m (-1) fs = b → Q (.bl b) H := fun e => e ▸ k
  refine ⟨1, rfl, ?_⟩
  refine ⟨.ref a, rfl, a, rfl, ⟨_, SqL.of ea⟩, ?_⟩
  refine for_it (walk_list (xs := fs.map V.int)) (fun i σ H' => ∃ (ah : Int) (v3 : Option V), σ = [some (.ref a), some (.int m), some (.int ah), v3] ∧ H' = H ∧ i ≤ fs.length ∧ risB m (-1) fs = risB m ah (fs.drop i)) ⟨-1, none, rfl, rfl, Nat.zero_le _, rfl⟩ (fun i σ H' _ ⟨_, _, _, e, _⟩ => SqL.of (e ▸ ea)) ?_ ?_
  · rintro i x σ H1 H1' hi ⟨ah, v3, rfl, rfl, hl, hr⟩ ⟨rfl, ex⟩
    obtain ⟨c, ec, rfl⟩ : ∃ c, fs[i]? = some c ∧ x = .int c := by
      rw [List.getElem?_map] at ex
      cases e : fs[i]? with
      | none => rw [e] at ex; cases ex
      | some c => rw [e] at ex; exact ⟨c, rfl, (Option.some.inj ex).symm⟩
    have hlt : i < fs.length := (List.getElem?_eq_some_iff.mp ec).1
    have ed : fs.drop i = c :: fs.drop (i + 1) := by
      rw [List.drop_eq_getElem_cons hlt]
      rw [List.getElem?_eq_getElem hlt] at ec
      rw [Option.some.inj ec]
    rw [ed, risB_cons] at hr
    by_cases d1 : ah < c
    · refine ⟨.int ah, rfl, .int c, rfl, ah, c, rfl, rfl, true, by show V.bl (decide (ah < c)) = _; rw [decide_eq_true d1], iteT ?_⟩
      by_cases d2 : c < m
      · refine ⟨.int m, rfl, c, m, rfl, rfl, true, by show V.bl (decide (c < m)) = _; rw [decide_eq_true d2], iteF ?_⟩
        refine ⟨.int c, rfl, c, _, rfl, rfl, hlt, ?_⟩
        rw [hr, decide_eq_true d1, decide_eq_true d2]
        rfl
      · refine ⟨.int m, rfl, c, m, rfl, rfl, false, by show V.bl (decide (c < m)) = _; rw [decide_eq_false d2], iteT ?_⟩
        refine out ?_
        rw [hr, decide_eq_true d1, decide_eq_false d2]
        rfl
    · refine ⟨.int ah, rfl, .int c, rfl, ah, c, rfl, rfl, false, by show V.bl (decide (ah < c)) = _; rw [decide_eq_false d1], iteF ⟨false, rfl, iteT ?_⟩⟩
      refine out ?_
      rw [hr, decide_eq_false d1]
      rfl
  · rintro σ H1 ⟨ah, v3, rfl, rfl, _, hr⟩
    rw [List.length_map, List.drop_of_length_le (Nat.le_refl _)] at hr
    refine out ?_
    rw [hr]
    rfl
end
abbrev s_bounds_of : Stmt := topS 7
theorem sc_bounds_of : FnScope ["strip", "wish", "cell", "wished", "bounds", "holed", "left"] ["strip", "wish"] (defScope s_bounds_of) := ⟨rfl, rfl, rfl, by decide +kernel, rfl, by decide +kernel, by decide +kernel⟩

abbrev s_greatest_worth : Stmt := topS 10
theorem sc_greatest_worth : FnScope ["bounds", "best", "parity", "ending", "cell", "few", "most"] ["bounds"] (defScope s_greatest_worth) := ⟨rfl, rfl, rfl, by decide +kernel, rfl, by decide +kernel, by decide +kernel⟩

abbrev s_fewest : Stmt := topS 5
theorem sc_fewest : FnScope ["strip", "wish", "bounds"] ["strip", "wish"] (defScope s_fewest) := ⟨rfl, rfl, rfl, by decide +kernel, rfl, by decide +kernel, by decide +kernel⟩

section
variable {P : Program} {w : World} {K : PySem.W.Frag} {mg : Str → Option Value} {base : Heap} {Ta : Addr}
/-- how often each cell is punched at least, and at most, new pairs -/
def sp_bounds : Sp := fun vs H Q _ => ∃ (a y : Addr) (rs : List Addr) (cs : List (Bool × Int)) (ws : List Int), vs = [.ref a, .ref y] ∧ Wish H a y rs cs ws ∧ okW cs ws = true ∧ ∀ q H' rb, H q = none → Same H H' → Bnds H' q rb (bndL cs ws) → Q (.ref q) H'
theorem ok_bounds {f : Addr} {fd : FuncData} (o : Own K mg "bounds_of" s_bounds_of ["strip", "wish"] f fd) (T : Txt mg) (C_is_rising : Cal P w K mg base CX0 1 "is_rising" s_is_rising ["numbers", "end"] sp_is_rising) :
    Cal P w K mg base CX0 2 "bounds_of" s_bounds_of ["strip", "wish"] sp_bounds := by
  refine ⟨f, fd, o, ?_⟩
  refine Dok.calm o.F sc_bounds_of (fun vs H Q E h => ?_) (fun cdv A outer s H vs Q E hr h => ?_)
  · obtain ⟨a, y, rs, cs, ws, rfl, _⟩ := h
    rfl
  obtain ⟨a, y, rs, cs, ws, rfl, hW, hok, k⟩ := h
  refine ⟨_, (pss_cons (ps_if (PW.pt (pw_or (pt_not (pt_val (c_call C_is_rising (hr.mono (by omega)) pass0 (pa_cons (pv 1) (pa_cons (pe_callB (kc_len (K := K) rfl) (by rfl) T.len (by decide +kernel) (pa_cons (pv 0) pa_nil)) pa_nil))))) (pw_or1 (pt_val (pe_callB (kc_any (K := K) rfl rfl) (by rfl) T.any (by decide +kernel) (pa_cons (pe_lc (own := [("cell", 2)]) (g := (gName 2)) (by rfl) sc_bounds_of.nd (pi_list (pv 1)) (blkOk_by (own := [("cell", 2)]) (N := ["strip", "wish", "cell", "wished", "bounds", "holed", "left"]) (sc := defScope s_bounds_of) (by decide +kernel)) (fun _ _ _ _ _ => (pg_name (i := 2) sc_bounds_of.nd rfl (Or.inl rfl))) (fun _ _ _ _ _ => pts_nil) (fun _ _ _ _ _ => (pe_ix (k_ixT (K := K) rfl) (pe_ix (k_ixL (K := K) rfl) (pv 0) (pv 2) (fun _ _ => rfl)) pe_int (fun _ _ => rfl)))) pa_nil)))))) (pss_one (ps_never)) pss_nil)
    (pss_cons (ps_set (i := 3) sc_bounds_of.nd rfl (Or.inl rfl) (pe_callTy (kc_setI (K := K) rfl rfl) (by rfl) T.set (by decide +kernel) (pa_cons (pv 1) pa_nil)))
    (pss_cons (ps_set (i := 4) sc_bounds_of.nd rfl (Or.inl rfl) (pe_lst pa_nil))
    (pss_cons (ps_for PassesOwn.never rfl (pi_enum (by rfl) T.enumerate (pa_cons (pv 0) pa_nil)) (pg_tup rfl (pgs_cons (pg_name (i := 2) sc_bounds_of.nd rfl (Or.inl rfl)) (pgs_cons (pg_tup rfl (pgs_cons (pg_name (i := 5) sc_bounds_of.nd rfl (Or.inl rfl)) (pgs_cons (pg_name (i := 6) sc_bounds_of.nd rfl (Or.inl rfl)) pgs_nil))) pgs_nil))) (pss_one (ps_expr (pe_bm PySem.F.plainAttrs_list PySem.F.slot_list_append PySem.F.type_list_append mt_append (pv 4) (pa_cons (pe_tup (pa_cons (pe_ifExp (pt_cmpR op_inI (pv 2) (pv 3) rfl) pe_int pe_int) (pa_cons (pe_ifExp (PW.pt (pw_or (pt_val (pv 5)) (pw_or1 (pt_cmpR op_inI (pv 2) (pv 3) rfl)))) (pv 6) pe_int) pa_nil))) pa_nil)))))
    (pss_one (ps_ret (pv 4))))))), ?_⟩
  have lrs : (rs.map V.ref).length = cs.length := by rw [List.length_map, hW.c.len]
  unfold okW at hok
  rw [Bool.and_eq_true, Bool.not_eq_true'] at hok
  obtain ⟨hR, hA⟩ := hok
  have hlw := hW.lw
  refine ⟨.ref y, rfl, .ref a, rfl, a, _, rfl, .inl (SqL.of hW.c.at_), y, _, ws, rfl, hW.w, true, by rw [lrs, hR], iteF ?_⟩
  -- any([strip[cell][0] for cell in wish])
  refine ⟨.ref y, rfl, y, rfl, ⟨_, SqL.of hW.w⟩, fun D hD => ?_⟩
  have lw : (ws.map V.int).length = ws.length := List.length_map ..
  refine lc_it (walk_list (xs := ws.map V.int)) (fun i H' => Same H H' ∧ H' D = some (.lst (((ws.take i).map fun z => (cs.getD z.toNat (false, 0)).1).map V.bl))) ⟨same_new hD, upd_same⟩ (fun _ _ _ e => SqL.of (e.1 _ _ hW.w)) ?_ ?_
  · rintro i x H1 H1' hi ⟨s1, eD⟩ ⟨rfl, ex⟩
    obtain ⟨z, ez, rfl⟩ := ints_at ex
    obtain ⟨z0, z1⟩ := hW.b z (List.mem_of_getElem? ez)
    obtain ⟨r, e1, e2⟩ := (hW.c.same s1).atI z0 z1
    refine ⟨rfl, tyes (iteT ?_)⟩
    refine ⟨.ref a, rfl, .int z, rfl, a, _, z, .ref r, rfl, rfl, SqL.of (s1 _ _ hW.c.at_), e1, r, _, 0, .bl _, rfl, rfl, SqT.of e2, rfl, _, eD, ?_, same_mut s1 hD, ?_⟩
    · rw [List.length_map, List.length_map, List.length_take]
      exact long_ok (by omega)
    · rw [upd_same, List.take_add_one, ez, List.map_append, List.map_append]
      rfl
  rintro H1 ⟨s1, eD⟩
  rw [lw, List.take_length] at eD
  have eAny : ((ws.map fun z => (cs.getD z.toNat (false, 0)).1).any id) = false := by
    rw [List.any_map]
    exact hA
  refine ⟨D, _, rfl, SqL.of eD, false, by rw [eAny], iteF ?_⟩
  -- wished, bounds
  have hW1 := hW.same s1
  refine ⟨.ref y, rfl, y, ws, rfl, SqL.of hW1.w, by omega, fun p S n np hS => ⟨Nat.zero_le _, fun B hB => ?_⟩⟩
  have s2 := s1.trans (same_new (o := .set S n) np)
  have nB : H B = none := s2.free hB
  have s3 := s2.trans (same_new (o := .lst []) hB)
  have eS : upd (upd H1 p (.set S n)) B (.lst []) p = some (.set S n) := (same_new hB) _ _ upd_same
  refine ⟨.ref a, rfl, a, _, rfl, SqL.of (s3 _ _ hW.c.at_), ?_⟩
  refine for_it (walk_enum (xs := rs.map V.ref)) (fun i σ H' => ∃ (v2 v5 v6 : Option V) (rb : List Addr), σ = [some (.ref a), some (.ref y), v2, some (.ref p), some (.ref B), v5, v6] ∧ Same H H' ∧ H' p = some (.set S n) ∧ Bnds H' B rb ((bndL cs ws).take i))
    ⟨_, none, none, [], rfl, s3, eS, Bnds.nil⟩ (fun i σ H' _ ⟨_, _, _, _, _, s, _⟩ => SqL.of (s _ _ hW.c.at_)) ?_ ?_
  · rintro i x σ H2 H2' hi ⟨v2, v5, v6, rb, rfl, s4, eS4, hB4⟩ ⟨t, y1, y2, rfl, nt, rfl, e1, e2⟩
    rw [lrs] at hi
    cases (Option.some.inj e1 : V.int (i : Nat) = y1)
    obtain ⟨r, rfl, _, er⟩ := (hW.c.same s4).item e2
    obtain ⟨h, hh⟩ : ∃ h, h = (cs.getD i (false, 0)).1 := ⟨_, rfl⟩
    obtain ⟨l, hl⟩ : ∃ l, l = (cs.getD i (false, 0)).2 := ⟨_, rfl⟩
    rw [← hh, ← hl] at er
    have s5 := same_new (o := .tup [.int (i : Nat), .ref r]) nt
    refine ⟨t, _, rfl, SqT.of upd_same, rfl, _, _, rfl, _, [], rfl, r, _, rfl, SqT.of (s5 _ _ er), rfl, _, _, rfl, _, [], rfl, rfl, rfl, ?_⟩
    have s45 := s4.trans s5
    have hB5 := hB4.same s5
    have eS5 := s5 _ _ eS4
    generalize upd H2 t (.tup [.int (i : Nat), .ref r]) = H3 at s45 hB5 eS5
    have lrb : rb.length ≤ 1000 := by
      have := hW.l
      rw [hB5.len, List.length_take, bndL_len]
      omega
    have fin : ∀ (x y' : Int) (t2 : Addr), H3 t2 = none → x = fewAt ws i → y' = mostAt cs ws i → (rb.map V.ref).length < sizeLine ∧ upd H3 t2 (.tup [.int x, .int y']) B = some (.lst (rb.map V.ref)) ∧
        Same H (upd (upd H3 t2 (.tup [.int x, .int y'])) B (.lst (rb.map V.ref ++ [.ref t2]))) ∧ upd (upd H3 t2 (.tup [.int x, .int y'])) B (.lst (rb.map V.ref ++ [.ref t2])) p = some (.set S n) ∧
        Bnds (upd (upd H3 t2 (.tup [.int x, .int y'])) B (.lst (rb.map V.ref ++ [.ref t2]))) B (rb ++ [t2]) ((bndL cs ws).take (i + 1)) := by
      rintro x y' t2 nt2 rfl rfl
      have s6 := same_new (o := .tup [.int (fewAt ws i), .int (mostAt cs ws i)]) nt2
      refine ⟨by rw [List.length_map]; exact long_ok (by omega), s6 _ _ hB5.at_, same_mut (s45.trans s6) nB, ?_, ?_⟩
      · rw [upd_ne (fun z => by rw [z, hB5.at_] at eS5; cases eS5)]
        exact s6 _ _ eS5
      · have eb : (bndL cs ws)[i]? = some (fewAt ws i, mostAt cs ws i) := by
          unfold bndL
          rw [List.getElem?_map, List.getElem?_range hi] <;> rfl
        rw [List.take_add_one, eb]
        exact hB5.push nt2 _ _
    have mem : ∀ {Q : Prop} , (S (i : Int) = true → (i : Int) ∈ ws → Q) → (S (i : Int) = false → ¬ (i : Int) ∈ ws → Q) → Q := fun h1 h2 => by
      by_cases c : (i : Int) ∈ ws
      · exact h1 (by rw [hS, decide_eq_true c]) c
      · exact h2 (by rw [hS, decide_eq_false c]) c
    refine mem (fun hs hm => ?_) (fun hs hm => ?_)
    · refine ⟨.ref B, rfl, .inl ⟨rfl, _, SqL.of hB5.at_⟩, .int (i : Nat), rfl, .ref p, rfl, (i : Nat), p, S, n, rfl, rfl, eS5, true, by rw [hs], iteT ?_⟩
      have em : mostAt cs ws i = l := by unfold mostAt; rw [if_pos (.inr hm), ← hl]
      have ef : fewAt ws i = 1 := if_pos hm
      cases hb : h with
      | true =>
        refine ⟨.bl true, rfl, true, rfl, iteT ⟨.int l, rfl, (by show 2 ≤ sizeLine; decide), fun t2 nt2 => ?_⟩⟩
        obtain ⟨x1, x2, x3, x4, x5⟩ := fin 1 l t2 nt2 ef.symm em.symm
        exact ⟨B, _, _, rfl, rfl, x2, x1, _, _, _, _, rfl, x3, x4, x5⟩
      | false =>
        refine ⟨.bl false, rfl, false, rfl, iteF ⟨.int (i : Nat), rfl, .ref p, rfl, (i : Nat), p, S, n, rfl, rfl, eS5, true, by rw [hs], iteT ⟨.int l, rfl, (by show 2 ≤ sizeLine; decide), fun t2 nt2 => ?_⟩⟩⟩
        obtain ⟨x1, x2, x3, x4, x5⟩ := fin 1 l t2 nt2 ef.symm em.symm
        exact ⟨B, _, _, rfl, rfl, x2, x1, _, _, _, _, rfl, x3, x4, x5⟩
    · refine ⟨.ref B, rfl, .inl ⟨rfl, _, SqL.of hB5.at_⟩, .int (i : Nat), rfl, .ref p, rfl, (i : Nat), p, S, n, rfl, rfl, eS5, false, by rw [hs], iteF ?_⟩
      have ef : fewAt ws i = 0 := if_neg hm
      cases hb : h with
      | true =>
        have em : mostAt cs ws i = l := by unfold mostAt; rw [if_pos (.inl (by rw [← hh, hb])), ← hl]
        refine ⟨.bl true, rfl, true, rfl, iteT ⟨.int l, rfl, (by show 2 ≤ sizeLine; decide), fun t2 nt2 => ?_⟩⟩
        obtain ⟨x1, x2, x3, x4, x5⟩ := fin 0 l t2 nt2 ef.symm em.symm
        exact ⟨B, _, _, rfl, rfl, x2, x1, _, _, _, _, rfl, x3, x4, x5⟩
      | false =>
        have em : mostAt cs ws i = 0 := by
          unfold mostAt
          rw [if_neg]
          rintro (z | z)
          · rw [← hh, hb] at z
            cases z
          · exact hm z
        refine ⟨.bl false, rfl, false, rfl, iteF ⟨.int (i : Nat), rfl, .ref p, rfl, (i : Nat), p, S, n, rfl, rfl, eS5, false, by rw [hs], iteF ⟨(by show 2 ≤ sizeLine; decide), fun t2 nt2 => ?_⟩⟩⟩
        obtain ⟨x1, x2, x3, x4, x5⟩ := fin 0 0 t2 nt2 ef.symm em.symm
        exact ⟨B, _, _, rfl, rfl, x2, x1, _, _, _, _, rfl, x3, x4, x5⟩
  · rintro σ H2 ⟨v2, v5, v6, rb, rfl, s4, eS4, hB4⟩
    rw [lrs, ← bndL_len cs ws, List.take_length] at hB4
    exact ⟨.ref B, rfl, k B H2 rb nB s4 hB4⟩
/-- the greatest worth -/
def sp_gw : Sp := fun vs H Q _ => ∃ (q : Addr) (rb : List Addr) (bs : List (Int × Int)), vs = [.ref q] ∧ Bnds H q rb bs ∧ ∀ H', Same H H' → Q (.int (gw bs)) H'
def gwq (bs : List (Int × Int)) (q : Nat) : Int := if q = 0 then 0 else if q = 1 then kadB (val bs 0) 0 bs.length else gw bs
theorem ok_gw {f : Addr} {fd : FuncData} (o : Own K mg "_greatest_worth" s_greatest_worth ["bounds"] f fd) (T : Txt mg) : Cal P w K mg base CX0 1 "_greatest_worth" s_greatest_worth ["bounds"] sp_gw := by
  refine ⟨f, fd, o, ?_⟩
  refine Dok.calm o.F sc_greatest_worth (fun vs H Q E h => ?_) (fun cdv A outer s H vs Q E hr h => ?_)
  · obtain ⟨q, rb, bs, rfl, _⟩ := h
    rfl
  obtain ⟨q, rb, bs, rfl, hB, k⟩ := h
  refine ⟨_, (pss_cons (ps_set (i := 1) sc_greatest_worth.nd rfl (Or.inl rfl) pe_int)
    (pss_cons (ps_for PassesOwn.never rfl (pi_tup (pe_tup (pa_cons pe_int (pa_cons pe_int pa_nil)))) (pg_name (i := 2) sc_greatest_worth.nd rfl (Or.inl rfl)) (pss_cons (ps_set (i := 3) sc_greatest_worth.nd rfl (Or.inl rfl) pe_int)
    (pss_one (ps_for PassesOwn.never rfl (pi_enum (by rfl) T.enumerate (pa_cons (pv 0) pa_nil)) (pg_tup rfl (pgs_cons (pg_name (i := 4) sc_greatest_worth.nd rfl (Or.inl rfl)) (pgs_cons (pg_tup rfl (pgs_cons (pg_name (i := 5) sc_greatest_worth.nd rfl (Or.inl rfl)) (pgs_cons (pg_name (i := 6) sc_greatest_worth.nd rfl (Or.inl rfl)) pgs_nil))) pgs_nil))) (pss_cons (ps_set (i := 3) sc_greatest_worth.nd rfl (Or.inl rfl) (pe_callB (call_max2 rfl) (by rfl) T.max (by decide +kernel) (pa_cons pe_int (pa_cons (pe_op op_add (pv 3) (pe_ifExp (pt_cmpR op_eq (pe_op op_modN (pv 4) pe_int) (pv 2) (nomark _)) (pv 5) (pe_un un_neg (pv 6)))) pa_nil))))
    (pss_one (ps_set (i := 1) sc_greatest_worth.nd rfl (Or.inl rfl) (pe_callB (call_max2 rfl) (by rfl) T.max (by decide +kernel) (pa_cons (pv 1) (pa_cons (pv 3) pa_nil))))))))))
    (pss_one (ps_ret (pv 1))))), ?_⟩
  have lrb : (rb.map V.ref).length = bs.length := by rw [List.length_map, hB.len]
  refine ⟨(by show 2 ≤ sizeLine; decide), fun tp ntp => ⟨tp, rfl, ⟨_, SqT.of upd_same⟩, ?_⟩⟩
  have s0 := same_new (o := .tup [.int 0, .int 1]) ntp
  have etp : upd H tp (.tup [.int 0, .int 1]) tp = some (.tup ([0, 1].map V.int)) := upd_same
  refine for_it (walk_tup (xs := [0, 1].map V.int)) (fun q' σ H' => ∃ (v2 v3 v4 v5 v6 : Option V), σ = [some (.ref q), some (.int (gwq bs q')), v2, v3, v4, v5, v6] ∧ Same H H' ∧ H' tp = some (.tup ([0, 1].map V.int))) ⟨none, none, none, none, none, rfl, s0, etp⟩ (fun _ _ _ _ ⟨_, _, _, _, _, _, _, e⟩ => SqT.of e) ?_ ?_
  · rintro p x σ H1 H1' hp ⟨v2, v3, v4, v5, v6, rfl, s1, et⟩ ⟨rfl, ex⟩
    have hp2 : p < 2 := hp
    obtain ⟨pi, epi, rfl⟩ := ints_at ex
    have epp : pi = (p : Int) := by
      have : p = 0 ∨ p = 1 := by omega
      rcases this with rfl | rfl
      · exact (Option.some.inj epi).symm
      · exact (Option.some.inj epi).symm
    subst epp
    refine ⟨.ref q, rfl, q, _, rfl, SqL.of (s1 _ _ hB.at_), ?_⟩
    refine for_it (walk_enum (xs := rb.map V.ref)) (fun i σ H' => ∃ (v4 v5 v6 : Option V), σ = [some (.ref q), some (.int (kadB (val bs p) (gwq bs p) i)), some (.int p), some (.int (kadE (val bs p) i)), v4, v5, v6] ∧ Same H H' ∧ H' tp = some (.tup ([0, 1].map V.int))) ⟨v4, v5, v6, rfl, s1, et⟩ (fun i σ H' _ ⟨_, _, _, _, s, _⟩ => SqL.of (s _ _ hB.at_)) ?_ ?_
    · rintro i y σ H2 H2' hi ⟨v4, v5, v6, rfl, s2, et2⟩ ⟨t, y1, y2, rfl, nt, rfl, e1, e2⟩
      cases (Option.some.inj e1 : V.int (i : Nat) = y1)
      obtain ⟨r, rfl, _, er⟩ := (hB.same s2).item e2
      have s3 := same_new (o := .tup [.int (i : Nat), .ref r]) nt
      refine ⟨t, _, rfl, SqT.of upd_same, rfl, _, _, rfl, _, [], rfl, r, _, rfl, SqT.of (s3 _ _ er), rfl, _, _, rfl, _, [], rfl, rfl, rfl, ?_⟩
      obtain ⟨e, he⟩ : ∃ e, e = kadE (val bs p) i := ⟨_, rfl⟩
      obtain ⟨b, hb⟩ : ∃ b, b = kadB (val bs p) (gwq bs p) i := ⟨_, rfl⟩
      rw [← he, ← hb]
      have fin : ∀ z : Int, z = val bs p i → (if e + z > 0 then e + z else 0) = kadE (val bs p) (i + 1) ∧ (if (if e + z > 0 then e + z else 0) > b then (if e + z > 0 then e + z else 0) else b) = kadB (val bs p) (gwq bs p) (i + 1) := by
        rintro z rfl
        have h1 : (if e + val bs p i > 0 then e + val bs p i else 0) = kadE (val bs p) (i + 1) := by
          rw [he]
          rfl
        refine ⟨h1, ?_⟩
        rw [h1, hb]
        rfl
      refine ⟨.int e, rfl, .int (i : Nat), rfl, _, 2, rfl, rfl, (show (2 : Int) ≠ 0 by decide), .int (p : Int), rfl, rfl, _, rfl, ite2 (fun g => ?_) (fun g => ?_)⟩
      · have g : ((i : Nat) : Int).fmod 2 = (p : Int) := V.int.inj (of_decide_eq_true g)
        rw [fmod2] at g
        obtain ⟨f1, f2⟩ := fin (bs.getD i (0, 0)).1 (by unfold val; rw [if_pos g])
        exact ⟨.int _, rfl, e, _, rfl, rfl, 0, _, rfl, .int b, rfl, .int _, rfl, b, _, rfl, some (.int (i : Nat)), some (.int _), some (.int _), by rw [← f2, ← f1]; rfl, s2.trans s3, s3 _ _ et2⟩
      · have g : ¬ ((i : Nat) : Int) % 2 = (p : Int) := fun z => g (decide_eq_true (show V.int (((i : Nat) : Int).fmod 2) = V.int (p : Int) by rw [fmod2, z]))
        obtain ⟨f1, f2⟩ := fin (-(bs.getD i (0, 0)).2) (by unfold val; rw [if_neg g])
        exact ⟨.int _, rfl, _, rfl, e, _, rfl, rfl, 0, _, rfl, .int b, rfl, .int _, rfl, b, _, rfl, some (.int (i : Nat)), some (.int _), some (.int _), by rw [← f2, ← f1]; rfl, s2.trans s3, s3 _ _ et2⟩
    · rintro σ H2 ⟨v4, v5, v6, rfl, s2, et2⟩
      have eq : kadB (val bs p) (gwq bs p) (rb.map V.ref).length = gwq bs (p + 1) := by
        rw [lrb]
        have : p = 0 ∨ p = 1 := by omega
        rcases this with rfl | rfl <;> rfl
      exact ⟨_, _, _, _, _, by rw [eq] <;> rfl, s2, et2⟩
  · rintro σ H1 ⟨v2, v3, v4, v5, v6, rfl, s1, et⟩
    exact ⟨.int _, rfl, k H1 s1⟩
/-- the fewest punches, or None -/
def sp_fewest (Ta : Addr) : Sp := fun vs H Q _ => ∃ (a y : Addr) (rs : List Addr) (cs : List (Bool × Int)) (ws : List Int), vs = [.ref a, .ref y] ∧ H Ta = some (TabO Ta) ∧ Wish H a y rs cs ws ∧ okW cs ws = true ∧ ∀ H', Same H H' → Q (oV (fewO cs ws)) H'
theorem ok_fewest {f : Addr} {fd : FuncData} (o : Own K mg "fewest" s_fewest ["strip", "wish"] f fd) (T : Txt mg) (C_bounds_of : Cal P w K mg base CX0 2 "bounds_of" s_bounds_of ["strip", "wish"] sp_bounds) (C_cell_without_pass : Cal P w K mg base CX0 1 "cell_without_pass" s_cell_without_pass ["strip", "wish"] (sp_cwp Ta))
    (C_greatest_worth : Cal P w K mg base CX0 1 "_greatest_worth" s_greatest_worth ["bounds"] sp_gw) : Cal P w K mg base CX0 3 "fewest" s_fewest ["strip", "wish"] (sp_fewest Ta) := by
  refine ⟨f, fd, o, ?_⟩
  refine Dok.calm o.F sc_fewest (fun vs H Q E h => ?_) (fun cdv A outer s H vs Q E hr h => ?_)
  · obtain ⟨a, y, rs, cs, ws, rfl, _⟩ := h
    rfl
  obtain ⟨a, y, rs, cs, ws, rfl, hT, hW, hok, k⟩ := h
  refine ⟨_, (pss_cons (ps_set (i := 2) sc_fewest.nd rfl (Or.inl rfl) (c_call C_bounds_of (hr.mono (by omega)) pass0 (pa_cons (pv 0) (pa_cons (pv 1) pa_nil))))
    (pss_one (ps_ret (pe_ifExp (pt_cmpR op_notN (c_call C_cell_without_pass (hr.mono (by omega)) pass0 (pa_cons (pv 0) (pa_cons (pv 1) pa_nil))) pe_non (nomark _)) pe_non (c_call C_greatest_worth (hr.mono (by omega)) pass0 (pa_cons (pv 2) pa_nil)))))), ?_⟩
  refine ⟨.ref a, rfl, .ref y, rfl, a, y, rs, cs, ws, rfl, hW, hok, fun q H1 rb nq s1 hB => ?_⟩
  refine ⟨.ref a, rfl, .ref y, rfl, a, y, rs, cs, ws, rfl, s1 _ _ hT, hW.same s1, ?_⟩
  cases et : torn cs ws with
  | some z =>
    refine ⟨rfl, true, rfl, iteT ?_⟩
    have e : fewO cs ws = none := by unfold fewO; rw [et]
    have := k H1 s1
    rw [e] at this
    exact this
  | none =>
    refine ⟨rfl, false, rfl, iteF ⟨.ref q, rfl, q, rb, bndL cs ws, rfl, hB, fun H2 s2 => ?_⟩⟩
    have e : fewO cs ws = some (gw (bndL cs ws)) := by unfold fewO; rw [et]
    have := k H2 (s1.trans s2)
    rw [e] at this
    exact this
end
abbrev s_worth_of : Stmt := topS 9
theorem sc_worth_of : FnScope ["bounds", "cells", "parity", "total", "cell", "few", "most"] ["bounds", "cells", "parity"] (defScope s_worth_of) := ⟨rfl, rfl, rfl, by decide +kernel, rfl, by decide +kernel, by decide +kernel⟩

abbrev s_worth : Stmt := topS 6
theorem sc_worth : FnScope ["strip", "wish", "stretch", "first", "last", "parity", "bounds", "cell"] ["strip", "wish", "stretch"] (defScope s_worth) := ⟨rfl, rfl, rfl, by decide +kernel, rfl, by decide +kernel, by decide +kernel⟩

/-- what the cells count together -/
def wsm (bs : List (Int × Int)) (p : Nat) : List Int → Int
  | [] => 0
  | z :: r => val bs p z.toNat + wsm bs p r
theorem wsm_app (bs : List (Int × Int)) (p : Nat) : ∀ a b : List Int, wsm bs p (a ++ b) = wsm bs p a + wsm bs p b
  | [], b => (Int.zero_add _).symm
  | z :: a, b => by
    show val bs p z.toNat + wsm bs p (a ++ b) = val bs p z.toNat + wsm bs p a + wsm bs p b
    rw [wsm_app bs p a b, Int.add_assoc]
theorem wsm_one (bs : List (Int × Int)) (p : Nat) (z : Int) : wsm bs p [z] = val bs p z.toNat := Int.add_zero _
/-- the cells from i to j, of those below n -/
def cutC (i j n : Nat) : List Int := ((List.range n).filter fun c => decide (i ≤ c) && decide (c ≤ j)).map fun c : Nat => (c : Int)
theorem cutC_succ (i j n : Nat) : cutC i j (n + 1) = cutC i j n ++ (if (decide (i ≤ n) && decide (n ≤ j)) = true then [(n : Int)] else []) := by
  unfold cutC
  rw [List.range_succ, List.filter_append, List.map_append]
  by_cases h : (decide (i ≤ n) && decide (n ≤ j)) = true
  · have e : [n].filter (fun c => decide (i ≤ c) && decide (c ≤ j)) = [n] := List.filter_cons_of_pos h
    rw [if_pos h, e] <;> rfl
  · have e : [n].filter (fun c => decide (i ≤ c) && decide (c ≤ j)) = [] := List.filter_cons_of_neg h
    rw [if_neg h, e] <;> rfl
theorem cutC_len (i j n : Nat) : (cutC i j n).length ≤ n := by
  unfold cutC
  rw [List.length_map]
  exact Nat.le_trans (List.length_filter_le _ _) (Nat.le_of_eq List.length_range)
theorem cutC_bd {i j n : Nat} : ∀ z ∈ cutC i j n, 0 ≤ z ∧ z < (n : Int) := fun z hz => by
  obtain ⟨c, hc, rfl⟩ := List.mem_map.mp hz
  have := List.mem_range.mp (List.mem_filter.mp hc).1
  omega
theorem wsm_cut (bs : List (Int × Int)) (p i j : Nat) : ∀ n, wsm bs p (cutC i j n) = wsum (val bs p) i j n
  | 0 => rfl
  | n + 1 => by
    rw [cutC_succ, wsm_app, wsm_cut bs p i j n]
    by_cases h : i ≤ n ∧ n ≤ j
    · rw [if_pos (by rw [decide_eq_true h.1, decide_eq_true h.2] <;> rfl), wsm_one, Int.toNat_natCast]
      exact (if_pos h).symm
    · have e : (decide (i ≤ n) && decide (n ≤ j)) = false := by
        rw [Bool.eq_false_iff]
        intro z
        simp only [Bool.and_eq_true, decide_eq_true_eq] at z
        exact h z
      rw [if_neg (by rw [e]; exact Bool.false_ne_true)]
      show _ + 0 = _
      rw [Int.add_zero]
      exact (if_neg h).symm
section
variable {P : Program} {w : World} {K : PySem.W.Frag} {mg : Str → Option Value} {base : Heap}
def sp_worth_of : Sp := fun vs H Q _ => ∃ (q c : Addr) (p : Nat) (rb : List Addr) (bs : List (Int × Int)) (zs : List Int), vs = [.ref q, .ref c, .int (p : Int)] ∧ Bnds H q rb bs ∧ H c = some (.lst (zs.map V.int)) ∧ (∀ z ∈ zs, 0 ≤ z ∧ z < (bs.length : Int)) ∧ Q (.int (wsm bs p zs)) H
theorem ok_worth_of {f : Addr} {fd : FuncData} (o : Own K mg "worth_of" s_worth_of ["bounds", "cells", "parity"] f fd) (T : Txt mg) : Cal P w K mg base CX0 1 "worth_of" s_worth_of ["bounds", "cells", "parity"] sp_worth_of := by
  refine ⟨f, fd, o, ?_⟩
  refine Dok.calm o.F sc_worth_of (fun vs H Q E h => ?_) (fun cdv A outer s H vs Q E hr h => ?_)
  · obtain ⟨q, c, p, rb, bs, zs, rfl, _⟩ := h
    rfl
  obtain ⟨q, c, p, rb, bs, zs, rfl, hB, ec, hz, k⟩ := h
  refine ⟨_, (pss_cons (ps_set (i := 3) sc_worth_of.nd rfl (Or.inl rfl) pe_int)
    (pss_cons (ps_for PassesOwn.never rfl (pi_list (pv 1)) (pg_name (i := 4) sc_worth_of.nd rfl (Or.inl rfl)) (pss_cons (ps_asg (pe_ix (k_ixL (K := K) rfl) (pv 0) (pv 4) (fun _ _ => rfl)) (pg_tup rfl (pgs_cons (pg_name (i := 5) sc_worth_of.nd rfl (Or.inl rfl)) (pgs_cons (pg_name (i := 6) sc_worth_of.nd rfl (Or.inl rfl)) pgs_nil))))
    (pss_one (ps_aug (i := 3) sc_worth_of.nd rfl (Or.inl rfl) (pe_ifExp (pt_cmpR op_eq (pe_op op_modN (pv 4) pe_int) (pv 2) (nomark _)) (pv 5) (pe_un un_neg (pv 6))) ip_add))))
    (pss_one (ps_ret (pv 3))))), ?_⟩
  refine ⟨.ref c, rfl, c, rfl, ⟨_, SqL.of ec⟩, ?_⟩
  refine for_it (walk_list (xs := zs.map V.int)) (fun n σ H' => ∃ v7 v8 v9 : Option V, σ = [some (.ref q), some (.ref c), some (.int (p : Int)), some (.int (wsm bs p (zs.take n))), v7, v8, v9] ∧ H' = H) ⟨none, none, none, rfl, rfl⟩ (fun _ _ _ _ ⟨_, _, _, _, e⟩ => SqL.of (e ▸ ec)) ?_ ?_
  · rintro n x σ H2 H2' hn ⟨v7, v8, v9, rfl, rfl⟩ ⟨rfl, ex⟩
    obtain ⟨z, ez, rfl⟩ := ints_at ex
    obtain ⟨z0, z1⟩ := hz z (List.mem_of_getElem? ez)
    obtain ⟨m, rfl⟩ := Int.eq_ofNat_of_zero_le z0
    have hm : m < bs.length := by omega
    obtain ⟨r, x1, x2⟩ := hB.get m (bs.getD m (0, 0)) (by rw [List.getD_eq_getElem?_getD, List.getElem?_eq_getElem hm] <;> rfl)
    have et : zs.take (n + 1) = zs.take n ++ [(m : Int)] := by rw [List.take_add_one, ez] <;> rfl
    have hv : wsm bs p (zs.take (n + 1)) = wsm bs p (zs.take n) + val bs p m := by rw [et, wsm_app, wsm_one, Int.toNat_natCast]
    refine ⟨.ref q, rfl, .int (m : Int), rfl, q, _, _, .ref r, rfl, rfl, SqL.of hB.at_, atI_nat (by rw [List.getElem?_map, x1] <;> rfl), r, _, rfl, SqT.of x2, rfl, _, _, rfl, _, [], rfl, rfl, ?_⟩
    refine ⟨.int _, rfl, .int (m : Int), rfl, _, 2, rfl, rfl, (show (2 : Int) ≠ 0 by decide), .int (p : Int), rfl, rfl, _, rfl, ite2 (fun g3 => ?_) (fun g3 => ?_)⟩
    · have g3 : ((m : Nat) : Int).fmod 2 = (p : Int) := V.int.inj (of_decide_eq_true g3)
      rw [fmod2] at g3
      have hv2 : val bs p m = (bs.getD m (0, 0)).1 := if_pos g3
      rw [hv, hv2]
      exact ⟨.int _, rfl, _, _, rfl, rfl, _, _, _, rfl, rfl⟩
    · have g3 : ¬ ((m : Nat) : Int) % 2 = (p : Int) := fun z => g3 (decide_eq_true (show V.int (((m : Nat) : Int).fmod 2) = V.int (p : Int) by rw [fmod2, z]))
      have hv2 : val bs p m = -(bs.getD m (0, 0)).2 := if_neg g3
      rw [hv, hv2]
      exact ⟨.int _, rfl, _, rfl, _, _, rfl, rfl, _, _, _, rfl, rfl⟩
  · rintro σ H2 ⟨v7, v8, v9, rfl, rfl⟩
    rw [List.length_map, List.take_length]
    exact ⟨.int _, rfl, k⟩
/-- the worth of a stretch -/
def sp_worth : Sp := fun vs H Q _ => ∃ (a y t : Addr) (rs : List Addr) (cs : List (Bool × Int)) (ws : List Int) (i j p : Nat), vs = [.ref a, .ref y, .ref t] ∧ Wish H a y rs cs ws ∧ okW cs ws = true ∧ H t = some (.tup [.int (i : Int), .int (j : Int), .int (p : Int)]) ∧ i ≤ j ∧ j < cs.length ∧ ∀ H', Same H H' → Q (.int (wth (val (bndL cs ws) p) i j)) H'
theorem ok_worth {f : Addr} {fd : FuncData} (o : Own K mg "worth" s_worth ["strip", "wish", "stretch"] f fd) (T : Txt mg) (C_bounds_of : Cal P w K mg base CX0 2 "bounds_of" s_bounds_of ["strip", "wish"] sp_bounds) (C_worth_of : Cal P w K mg base CX0 1 "worth_of" s_worth_of ["bounds", "cells", "parity"] sp_worth_of) :
    Cal P w K mg base CX0 3 "worth" s_worth ["strip", "wish", "stretch"] sp_worth := by
  refine ⟨f, fd, o, ?_⟩
  refine Dok.calm o.F sc_worth (fun vs H Q E h => ?_) (fun cdv A outer s H vs Q E hr h => ?_)
  · obtain ⟨a, y, t, rs, cs, ws, i, j, p, rfl, _⟩ := h
    rfl
  obtain ⟨a, y, t, rs, cs, ws, i, j, p, rfl, hW, ok, et, ij, jl, k⟩ := h
  refine ⟨_, (pss_cons (ps_asg (pv 2) (pg_tup rfl (pgs_cons (pg_name (i := 3) sc_worth.nd rfl (Or.inr rfl)) (pgs_cons (pg_name (i := 4) sc_worth.nd rfl (Or.inr rfl)) (pgs_cons (pg_name (i := 5) sc_worth.nd rfl (Or.inl rfl)) pgs_nil)))))
    (pss_cons (ps_set (i := 6) sc_worth.nd rfl (Or.inl rfl) (c_call C_bounds_of (hr.mono (by omega)) pass0 (pa_cons (pv 0) (pa_cons (pv 1) pa_nil))))
    (pss_one (ps_ret (c_call C_worth_of (hr.mono (by omega)) pass0 (pa_cons (pv 6) (pa_cons (pe_lc (own := [("cell", 7)]) (g := (gName 7)) (by rfl) sc_worth.nd (pi_range1 rfl T.range (pa_cons (pe_callB (kc_len (K := K) rfl) (by rfl) T.len (by decide +kernel) (pa_cons (pv 6) pa_nil)) pa_nil)) (blkOk_by (own := [("cell", 7)]) (N := ["strip", "wish", "stretch", "first", "last", "parity", "bounds", "cell"]) (sc := defScope s_worth) (by decide +kernel)) (fun _ _ _ _ _ => (pg_name (i := 7) sc_worth.nd rfl (Or.inl rfl))) (fun _ _ _ _ _ => (pts_one (pt_chain op_le op_le (pv 3) (pv 7) (pv 4)))) (fun _ _ _ _ _ => (pv 7))) (pa_cons (pv 5) pa_nil)))))))), ?_⟩
  refine ⟨.ref t, rfl, t, _, rfl, SqT.of et, rfl, _, _, rfl, _, _, rfl, _, [], rfl, rfl, ?_⟩
  refine ⟨.ref a, rfl, .ref y, rfl, a, y, rs, cs, ws, rfl, hW, ok, fun q H1 rb nq s1 hB => ?_⟩
  have hl := hW.l
  have lrb : (rb.map V.ref).length = cs.length := by rw [List.length_map, hB.len, bndL_len]
  refine ⟨.ref q, rfl, .ref q, rfl, q, _, rfl, .inl (SqL.of hB.at_), _, rfl, by omega, by omega, fun D hD => ?_⟩
  have e0 : ∀ i : Nat, (0 : Int) + (i : Int) = (i : Int) := fun i => Int.zero_add _
  refine lc_it walk_range (fun n H' => Same H1 H' ∧ H' D = some (.lst ((cutC i j n).map V.int))) ⟨same_new hD, upd_same⟩ (fun _ _ _ _ => True.intro) ?_ ?_
  · rintro n x H2 H2' hn ⟨s2, eD⟩ ⟨rfl, rfl⟩
    have hn' : n < cs.length := by
      have : n < ((rb.map V.ref).length : Int).toNat := hn
      omega
    have lc := cutC_len i j n
    refine ⟨rfl, .int (i : Int), rfl, .int (0 + (n : Int)), rfl, _, _, rfl, rfl, _, rfl, ite2 (fun g => ?_) (fun g => ?_)⟩
    · have g := of_decide_eq_true g
      refine ⟨.int (j : Int), rfl, _, _, rfl, rfl, _, rfl, ite2 (fun g2 => ?_) (fun g2 => ?_)⟩
      · have g2 := of_decide_eq_true g2
        refine ⟨.int (0 + (n : Int)), rfl, _, eD, by rw [List.length_map]; exact long_ok (by omega), same_mut s2 hD, ?_⟩
        rw [upd_same, cutC_succ, if_pos (by rw [decide_eq_true (show i ≤ n by omega), decide_eq_true (show n ≤ j by omega)] <;> rfl), List.map_append, e0 n] <;> rfl
      · refine ⟨s2, ?_⟩
        rw [eD, cutC_succ, decide_eq_false (fun z : n ≤ j => g2 (decide_eq_true (by omega))), Bool.and_false, if_neg Bool.false_ne_true, List.append_nil]
    · refine ⟨_, rfl, iteF ⟨s2, ?_⟩⟩
      rw [eD, cutC_succ, decide_eq_false (fun z : i ≤ n => g (decide_eq_true (by omega))), Bool.false_and, if_neg Bool.false_ne_true, List.append_nil]
  · rintro H2 ⟨s2, eD⟩
    rw [show ((rb.map V.ref).length : Int).toNat = cs.length by omega] at eD
    refine ⟨.int (p : Int), rfl, q, D, p, rb, bndL cs ws, _, rfl, hB.same s2, eD, fun z hz => ?_, ?_⟩
    · rw [bndL_len]
      exact cutC_bd z hz
    · rw [wsm_cut, wsum_all ij jl]
      exact k H2 (s1.trans s2)
end
abbrev s_law_alike : Stmt := topS 22
theorem sc_law_alike : FnScope ["found", "due", "one", "two"] ["found", "due"] (defScope s_law_alike) := ⟨rfl, rfl, rfl, by decide +kernel, rfl, by decide +kernel, by decide +kernel⟩

section
variable {K : PySem.W.Frag}
theorem kA {a b c : String} {x y : Bool} (h1 : kitB a b = some x) (h2 : kitB a c = some y) : PySem.W.kitAny K (.type a) [.type b, .type c] = some (x || y) := by
  refine kitAny_cons (kit_ty h1) (fun e => ?_) (fun e => ?_)
  · subst e
    refine kitAny_cons (kit_ty h2) (fun e => ?_) (fun e => ?_)
    · subst e
      exact kitAny_nil
    · subst e
      rfl
  · subst e
    rfl
end
section
variable {P : Program} {w : World} {K : PySem.W.Frag} {mg : Str → Option Value} {base : Heap}
/-- the same data are told to be alike -/
def sp_alike (n : Nat) : Sp := fun vs H Q _ => ∃ (v1 v2 : V) (d : PyData), vs = [v1, v2] ∧ Dt H v1 d ∧ Dt H v2 d ∧ dep n d ∧ ∀ H', Same H H' → Q (.bl true) H'
theorem alike_step {f : Addr} {fd : FuncData} {n j : Nat} {spP : Sp} (o : Own K mg "_law_alike" s_law_alike ["found", "due"] f fd) (T : Txt mg) (C_law_alike : Cal P w K mg base CX0 j "_law_alike" s_law_alike ["found", "due"] spP)
    (hP : ∀ (v1 v2 : V) (H : Hp) (Q : VK) (E : XK) (d : PyData) (m : Nat), n = m + 1 → Dt H v1 d → Dt H v2 d → dep m d → (∀ H', Same H H' → Q (.bl true) H') → spP [v1, v2] H Q E) :
    Cal P w K mg base CX0 (j + 1) "_law_alike" s_law_alike ["found", "due"] (sp_alike n) := by
  refine ⟨f, fd, o, ?_⟩
  refine Dok.calm o.F sc_law_alike (fun vs H Q E h => ?_) (fun cdv A outer s H vs Q E hr h => ?_)
  · obtain ⟨v1, v2, d, rfl, _⟩ := h
    rfl
  obtain ⟨v1, v2, d, rfl, h1, h2, hd, k⟩ := h
  refine ⟨_, (pss_cons (ps_if (pt_val (pe_callB (kc_isiT (K := K) rfl) (by rfl) T.isinstance (by decide +kernel) (pa_cons (pv 1) (pa_cons (pe_tup (pa_cons (pe_bltn (v := .ty "list") (by rfl) T.list (by decide +kernel) rfl) (pa_cons (pe_bltn (v := .ty "tuple") (by rfl) T.tuple (by decide +kernel) rfl) pa_nil))) pa_nil)))) (pss_cons (ps_if (PW.pt (pw_or (pt_not (pt_val (pe_callB (kc_isiT (K := K) rfl) (by rfl) T.isinstance (by decide +kernel) (pa_cons (pv 0) (pa_cons (pe_tup (pa_cons (pe_bltn (v := .ty "list") (by rfl) T.list (by decide +kernel) rfl) (pa_cons (pe_bltn (v := .ty "tuple") (by rfl) T.tuple (by decide +kernel) rfl) pa_nil))) pa_nil))))) (pw_or1 (pt_cmpR op_ne (pe_callB (kc_isi (K := K) rfl) (by rfl) T.isinstance (by decide +kernel) (pa_cons (pv 0) (pa_cons (pe_bltn (v := .ty "list") (by rfl) T.list (by decide +kernel) rfl) pa_nil))) (pe_callB (kc_isi (K := K) rfl) (by rfl) T.isinstance (by decide +kernel) (pa_cons (pv 1) (pa_cons (pe_bltn (v := .ty "list") (by rfl) T.list (by decide +kernel) rfl) pa_nil))) (nomark _))))) (pss_one (ps_ret pe_bl)) pss_nil)
    (pss_one (ps_ret (pe_and (pe_cmpR op_eq (pe_callB (kc_len (K := K) rfl) (by rfl) T.len (by decide +kernel) (pa_cons (pv 0) pa_nil)) (pe_callB (kc_len (K := K) rfl) (by rfl) T.len (by decide +kernel) (pa_cons (pv 1) pa_nil)) (nomark _)) (pe_one (pe_callB (kc_all (K := K) rfl rfl) (by rfl) T.all (by decide +kernel) (pa_cons (pe_lc (own := [("one", 2), ("two", 3)]) (g := (gTup K 2 (gCons (gName 2) (gCons (gName 3) gNil)))) (by rfl) sc_law_alike.nd (RZ.pi_zipA (by rfl) T.zip (pa_cons (pv 0) (pa_cons (pv 1) pa_nil))) (blkOk_by (own := [("one", 2), ("two", 3)]) (N := ["found", "due", "one", "two"]) (sc := defScope s_law_alike) (by decide +kernel)) (fun _ _ _ _ _ => (pg_tup rfl (pgs_cons (pg_name (i := 2) sc_law_alike.nd rfl (Or.inl rfl)) (pgs_cons (pg_name (i := 3) sc_law_alike.nd rfl (Or.inl rfl)) pgs_nil)))) (fun _ _ _ _ _ => pts_nil) (fun _ _ _ _ _ => (c_call C_law_alike (hr.mono (by omega)) pass0 (pa_cons (pv 2) (pa_cons (pv 3) pa_nil))))) pa_nil))))))) pss_nil)
    (pss_cons (ps_if (PW.pt (pw_or (pt_cmpR op_isN (pv 1) pe_non (nomark _)) (pw_or1 (pt_cmpR op_isN (pv 0) pe_non (nomark _))))) (pss_one (ps_ret (pe_and (pe_cmpR op_isN (pv 1) pe_non (nomark _)) (pe_one (pe_cmpR op_isN (pv 0) pe_non (nomark _)))))) pss_nil)
    (pss_one (ps_ret (pe_and (pe_cmpR op_eq (pe_callB (kc_isi (K := K) rfl) (by rfl) T.isinstance (by decide +kernel) (pa_cons (pv 0) (pa_cons (pe_bltn (v := .ty "bool") (by rfl) T.bool (by decide +kernel) rfl) pa_nil))) (pe_callB (kc_isi (K := K) rfl) (by rfl) T.isinstance (by decide +kernel) (pa_cons (pv 1) (pa_cons (pe_bltn (v := .ty "bool") (by rfl) T.bool (by decide +kernel) rfl) pa_nil))) (nomark _)) (pe_one (pe_cmpR op_eq (pv 0) (pv 1) (nomark _)))))))), ?_⟩
  -- what is made of the parts
  have parts : ∀ (a b : Addr) (xs ys : List V) (ds : List PyData) (H0 : Hp) (J : It), Same H H0 → DtAll H0 xs ds → DtAll H0 ys ds → ds.length ≤ 100000 → (∀ d ∈ ds, ∃ m, n = m + 1 ∧ dep m d) →
      Walk J xs.length (fun H' => Same H0 H') (YPair (fun i => xs[i]?) (fun i => ys[i]?)) → ∀ D, H0 D = none →
      ∃ W : Nat → Nat → Hp → Prop, (∃ m, W 0 m (upd H0 D (.lst []))) ∧ ∀ i m H, W i m H →
        (J.stop i H ∧ (rAll K [.ref D] H Q)) ∨ (J.go i H ∧ ∃ Nx : Hp → Prop, (∀ H', Nx H' → ∃ m', m' < m ∧ W (i + 1) m' H') ∧ ∀ x H', J.yld i H x H' → gTup K 2 (gCons (gName 2) (gCons (gName 3) gNil)) x (wipe (start ["found", "due", "one", "two"] [v1, v2]) [2, 3]) H' fun σ2 H2 =>
          wipe σ2 [2, 3] = wipe (start ["found", "due", "one", "two"] [v1, v2]) [2, 3] ∧ tYes σ2 H2 fun b H3 =>
          if b = true then tCall spP [] E0 (tCons (tVar 2) (tCons (tVar 3) tNil)) σ2 H3 fun y H4 => ∃ acc, H4 D = some (.lst acc) ∧ acc.length < sizeLine ∧ Nx (upd H4 D (.lst (acc ++ [y]))) else Nx H3) := by
    intro a b xs ys ds H0 J s0 h1 h2 hl hm wk D hD
    have lx := h1.len
    have ly := h2.len
    refine lc_it wk (fun i H' => Same H0 H' ∧ H' D = some (.lst (List.replicate i (.bl true)))) ⟨same_new hD, upd_same⟩ (fun i H' _ e => e.1) ?_ ?_
    · rintro i v H1 H1' hi ⟨s1, eD⟩ ⟨T, x, y, rfl, hT, rfl, ex, ey⟩
      have TD : D ≠ T := ne_of_none eD hT
      obtain ⟨d, ed⟩ : ∃ d, ds[i]? = some d := ⟨ds[i]'(by omega), by simp⟩
      obtain ⟨x', ex', dx⟩ := h1.get ed
      obtain ⟨y', ey', dy⟩ := h2.get ed
      cases ex.symm.trans ex'
      cases ey.symm.trans ey'
      obtain ⟨m, em, dm⟩ := hm d (List.mem_of_getElem? ed)
      have s2 : Same H0 (upd H1 T (.tup [x, y])) := s1.trans (same_new hT)
      refine ⟨T, [x, y], rfl, SqT.of upd_same, rfl, x, [y], rfl, y, [], rfl, rfl, rfl, tyes (iteT ?_)⟩
      refine ⟨x, rfl, y, rfl, hP x y _ _ _ d m em (dx.same s2) (dy.same s2) dm fun H3 s3 => ?_⟩
      refine ⟨List.replicate i (.bl true), s3 _ _ (by rw [upd_ne TD]; exact eD), by rw [List.length_replicate]; exact long_ok (by omega), same_mut (s2.trans s3) hD, ?_⟩
      rw [upd_same, List.replicate_succ']
    · rintro H1 ⟨s1, eD⟩
      refine ⟨D, List.replicate xs.length true, rfl, ?_, ?_⟩
      · rw [List.map_replicate]
        exact SqL.of eD
      · have e : (List.replicate xs.length true).all id = true := by simp
        rw [e]
        exact k _ (s0.trans s1)
  have kinds : (∃ T : String, scal v2 v2 = true ∧ v1 = v2 ∧ (∀ H', TyOf K H' v2 (.type T)) ∧ kitB T "list" = some false ∧ kitB T "tuple" = some false ∧ (∃ b, kitB T "bool" = some b)) ∨
      ∃ (a b : Addr) (xs ys : List V) (ds : List PyData), v1 = .ref a ∧ v2 = .ref b ∧ DtAll H xs ds ∧ DtAll H ys ds ∧ ds.length ≤ 100000 ∧ (∀ d ∈ ds, ∃ m, n = m + 1 ∧ dep m d) ∧ ((H a = some (.lst xs) ∧ H b = some (.lst ys)) ∨ (H a = some (.tup xs) ∧ H b = some (.tup ys))) := by
    cases h1 with
    | non =>
      cases h2
      exact .inl ⟨"NoneType", rfl, rfl, fun _ => .non, by decide +kernel, by decide +kernel, ⟨false, by decide +kernel⟩⟩
    | bl x =>
      cases h2
      exact .inl ⟨"bool", rfl, rfl, fun _ => .bl x, by decide +kernel, by decide +kernel, ⟨true, by decide +kernel⟩⟩
    | int x =>
      cases h2
      exact .inl ⟨"int", rfl, rfl, fun _ => .int x, by decide +kernel, by decide +kernel, ⟨false, by decide +kernel⟩⟩
    | str x =>
      cases h2
      exact .inl ⟨"str", rfl, rfl, fun _ => .str x, by decide +kernel, by decide +kernel, ⟨false, by decide +kernel⟩⟩
    | @lst a xs ds ea ra =>
      cases h2 with
      | @lst b ys _ eb rb =>
        cases n with
        | zero => exact hd.elim
        | succ m => exact .inr ⟨a, b, xs, ys, ds, rfl, rfl, ra, rb, hd.1, fun d q => ⟨m, rfl, hd.2 d q⟩, .inl ⟨ea, eb⟩⟩
    | @tup a xs ds ea ra =>
      cases h2 with
      | @tup b ys _ eb rb =>
        cases n with
        | zero => exact hd.elim
        | succ m => exact .inr ⟨a, b, xs, ys, ds, rfl, rfl, ra, rb, hd.1, fun d q => ⟨m, rfl, hd.2 d q⟩, .inr ⟨ea, eb⟩⟩
  rcases kinds with ⟨U, hs, rfl, ht, k1, k2, b, k3⟩ | ⟨a, b, xs, ys, ds, rfl, rfl, ra, rb, hl, hm, ⟨ea, eb⟩ | ⟨ea, eb⟩⟩
  · refine ⟨v1, rfl, (by show 2 ≤ sizeLine; decide), fun tp htp => ?_⟩
    refine ⟨v1, tp, _, _, _, false, rfl, upd_same, .cons (.ty _) (.cons (.ty _) .nil), .base (ht _), kA k1 k2, false, rfl, iteF ?_⟩
    have s1 := same_new (o := .tup [.ty "list", .ty "tuple"]) htp
    by_cases e : v1 = .non
    · subst e
      refine ⟨.non, rfl, rfl, true, rfl, iteT (iteT ?_)⟩
      refine ⟨.non, rfl, rfl, true, rfl, iteT ?_⟩
      exact ⟨.non, rfl, rfl, k _ s1⟩
    · refine ⟨v1, rfl, rfl, false, by rw [decide_eq_false e], iteF ?_⟩
      refine ⟨v1, rfl, rfl, false, by rw [decide_eq_false e], iteF ?_⟩
      refine ⟨v1, rfl, v1, .ty "bool", _, _, b, rfl, .ty _, .base (ht _), kit_ty k3, ?_⟩
      refine ⟨v1, rfl, v1, .ty "bool", _, _, b, rfl, .ty _, .base (ht _), kit_ty k3, ?_⟩
      refine ⟨rfl, true, by rw [decide_eq_true rfl], iteT ?_⟩
      refine ⟨v1, rfl, v1, rfl, hs, ?_⟩
      rw [decide_eq_true (rfl : v1 = v1)]
      exact k _ s1
  · refine ⟨.ref b, rfl, (by show 2 ≤ sizeLine; decide), fun tp htp => ?_⟩
    have s1 := same_new (o := .tup [.ty "list", .ty "tuple"]) htp
    refine ⟨.ref b, tp, _, _, _, true, rfl, upd_same, .cons (.ty _) (.cons (.ty _) .nil), .base (.lst (s1 _ _ eb)), kA (by decide +kernel : kitB "list" "list" = some true) (by decide +kernel : kitB "list" "tuple" = some false), true, rfl, iteT ?_⟩
    refine ⟨.ref a, rfl, (by show 2 ≤ sizeLine; decide), fun tq htq => ?_⟩
    have s2 := s1.trans (same_new (o := .tup [.ty "list", .ty "tuple"]) htq)
    refine ⟨.ref a, tq, _, _, _, true, rfl, upd_same, .cons (.ty _) (.cons (.ty _) .nil), .base (.lst (s2 _ _ ea)), kA (by decide +kernel : kitB "list" "list" = some true) (by decide +kernel : kitB "list" "tuple" = some false), true, rfl, iteF ?_⟩
    refine ⟨.ref a, rfl, .ref a, .ty "list", _, _, true, rfl, .ty _, .base (.lst (s2 _ _ ea)), kit_ty (by decide +kernel), ?_⟩
    refine ⟨.ref b, rfl, .ref b, .ty "list", _, _, true, rfl, .ty _, .base (.lst (s2 _ _ eb)), kit_ty (by decide +kernel), rfl, _, rfl, iteNS rfl ?_⟩
    have el : xs.length = ys.length := ra.len.trans rb.len.symm
    refine ⟨.ref a, rfl, a, xs, rfl, .inl (SqL.of (s2 _ _ ea)), .ref b, rfl, b, ys, rfl, .inl (SqL.of (s2 _ _ eb)), rfl, true, by rw [el, decide_eq_true rfl], iteT ?_⟩
    refine ⟨.ref a, rfl, .ref b, rfl, a, b, xs, ys, rfl, .inl ⟨SqL.of (s2 _ _ ea), SqL.of (s2 _ _ eb), fun D hD => ?_⟩⟩
    exact parts a b xs ys ds _ _ s2 (ra.same s2) (rb.same s2) hl hm ((walk_zip (K := K) (by rw [el, Nat.min_self])).mono (fun H' s3 => ⟨SqL.of (s3 _ _ (s2 _ _ ea)), SqL.of (s3 _ _ (s2 _ _ eb))⟩) (fun _ _ _ _ _ _ y => y)) D hD
  · refine ⟨.ref b, rfl, (by show 2 ≤ sizeLine; decide), fun tp htp => ?_⟩
    have s1 := same_new (o := .tup [.ty "list", .ty "tuple"]) htp
    refine ⟨.ref b, tp, _, _, _, true, rfl, upd_same, .cons (.ty _) (.cons (.ty _) .nil), .base (.tup (s1 _ _ eb)), kA (by decide +kernel : kitB "tuple" "list" = some false) (by decide +kernel : kitB "tuple" "tuple" = some true), true, rfl, iteT ?_⟩
    refine ⟨.ref a, rfl, (by show 2 ≤ sizeLine; decide), fun tq htq => ?_⟩
    have s2 := s1.trans (same_new (o := .tup [.ty "list", .ty "tuple"]) htq)
    refine ⟨.ref a, tq, _, _, _, true, rfl, upd_same, .cons (.ty _) (.cons (.ty _) .nil), .base (.tup (s2 _ _ ea)), kA (by decide +kernel : kitB "tuple" "list" = some false) (by decide +kernel : kitB "tuple" "tuple" = some true), true, rfl, iteF ?_⟩
    refine ⟨.ref a, rfl, .ref a, .ty "list", _, _, false, rfl, .ty _, .base (.tup (s2 _ _ ea)), kit_ty (by decide +kernel), ?_⟩
    refine ⟨.ref b, rfl, .ref b, .ty "list", _, _, false, rfl, .ty _, .base (.tup (s2 _ _ eb)), kit_ty (by decide +kernel), rfl, _, rfl, iteNS rfl ?_⟩
    have el : xs.length = ys.length := ra.len.trans rb.len.symm
    refine ⟨.ref a, rfl, a, xs, rfl, .inr (SqT.of (s2 _ _ ea)), .ref b, rfl, b, ys, rfl, .inr (SqT.of (s2 _ _ eb)), rfl, true, by rw [el, decide_eq_true rfl], iteT ?_⟩
    refine ⟨.ref a, rfl, .ref b, rfl, a, b, xs, ys, rfl, .inr ⟨SqT.of (s2 _ _ ea), SqT.of (s2 _ _ eb), fun D hD => ?_⟩⟩
    exact parts a b xs ys ds _ _ s2 (ra.same s2) (rb.same s2) hl hm ((walk_zipT (K := K) (by rw [el, Nat.min_self])).mono (fun H' s3 => ⟨SqT.of (s3 _ _ (s2 _ _ ea)), SqT.of (s3 _ _ (s2 _ _ eb))⟩) (fun _ _ _ _ _ _ y => y)) D hD
theorem ok_alike {f : Addr} {fd : FuncData} (o : Own K mg "_law_alike" s_law_alike ["found", "due"] f fd) (T : Txt mg) : ∀ n : Nat, Cal P w K mg base CX0 (n + 1) "_law_alike" s_law_alike ["found", "due"] (sp_alike n)
  | 0 => alike_step (j := 0) (spP := fun _ _ _ _ => False) o T ⟨f, fd, o, ⟨fun _ _ _ _ h => h.elim, fun _ _ _ _ _ _ _ _ _ _ _ _ _ h => h.elim⟩⟩ (fun _ _ _ _ _ _ m e => by omega)
  | n + 1 => alike_step o T (ok_alike o T n) (fun v1 v2 H Q E d m e h1 h2 h3 h4 => by
      have e' : n = m := by omega
      subst e'
      exact ⟨v1, v2, d, rfl, h1, h2, h3, h4⟩)
end
abbrev s_law_counted_here : Stmt := topS 23
theorem sc_law_counted_here : FnScope ["row", "want", "span", "first", "last", "parity", "found", "cell", "holed", "left"] ["row", "want", "span"] (defScope s_law_counted_here) := ⟨rfl, rfl, rfl, by decide +kernel, rfl, by decide +kernel, by decide +kernel⟩

def KW_fewest_0_wish_strip {α : Type} : List α → List α → List α
  | [], [b0, b1] => [b1, b0]
  | _, _ => []
theorem KW_fewest_0_wish_strip_b (kV doc pm : Value) (an : Option Addr) (cdv ct : Value) (us ws : List Value) (hl : (KW_fewest_0_wish_strip us ws).length = (["strip", "wish"] : List Str).length) :
    bindArgs (PySem.W.fnOf "fewest" "fewest" (defArgs s_fewest) (defBody s_fewest) (defScope s_fewest) .none kV doc pm an cdv ct) ⟨us, (["wish", "strip"] : List Str).zip ws⟩ = pure ((["strip", "wish"] : List Str).zip (KW_fewest_0_wish_strip us ws)) := by
  unfold KW_fewest_0_wish_strip at hl ⊢
  split at hl
  · rfl
  · cases hl
theorem KW_fewest_0_wish_strip_r : ∀ {vs : List V} {us : List Value} {zs : List V} {ws : List Value}, Vals vs us → Vals zs ws → Vals (KW_fewest_0_wish_strip vs zs) (KW_fewest_0_wish_strip us ws)
  | _, _, _, _, .nil, .nil => .nil
  | _, _, _, _, .nil, (.cons _ .nil) => .nil
  | _, _, _, _, .nil, (.cons q0 (.cons q1 .nil)) => (.cons q1 (.cons q0 .nil))
  | _, _, _, _, .nil, (.cons _ (.cons _ (.cons _ _))) => .nil
  | _, _, _, _, (.cons _ _), .nil => .nil
  | _, _, _, _, (.cons _ _), (.cons _ .nil) => .nil
  | _, _, _, _, (.cons _ _), (.cons q0 (.cons q1 .nil)) => .nil
  | _, _, _, _, (.cons _ _), (.cons _ (.cons _ (.cons _ _))) => .nil

def KW_worth_0_stretch_wish_strip {α : Type} : List α → List α → List α
  | [], [b0, b1, b2] => [b2, b1, b0]
  | _, _ => []
theorem KW_worth_0_stretch_wish_strip_b (kV doc pm : Value) (an : Option Addr) (cdv ct : Value) (us ws : List Value) (hl : (KW_worth_0_stretch_wish_strip us ws).length = (["strip", "wish", "stretch"] : List Str).length) :
    bindArgs (PySem.W.fnOf "worth" "worth" (defArgs s_worth) (defBody s_worth) (defScope s_worth) .none kV doc pm an cdv ct) ⟨us, (["stretch", "wish", "strip"] : List Str).zip ws⟩ = pure ((["strip", "wish", "stretch"] : List Str).zip (KW_worth_0_stretch_wish_strip us ws)) := by
  unfold KW_worth_0_stretch_wish_strip at hl ⊢
  split at hl
  · rfl
  · cases hl
theorem KW_worth_0_stretch_wish_strip_r : ∀ {vs : List V} {us : List Value} {zs : List V} {ws : List Value}, Vals vs us → Vals zs ws → Vals (KW_worth_0_stretch_wish_strip vs zs) (KW_worth_0_stretch_wish_strip us ws)
  | _, _, _, _, .nil, .nil => .nil
  | _, _, _, _, .nil, (.cons _ .nil) => .nil
  | _, _, _, _, .nil, (.cons _ (.cons _ .nil)) => .nil
  | _, _, _, _, .nil, (.cons q0 (.cons q1 (.cons q2 .nil))) => (.cons q2 (.cons q1 (.cons q0 .nil)))
  | _, _, _, _, .nil, (.cons _ (.cons _ (.cons _ (.cons _ _)))) => .nil
  | _, _, _, _, (.cons _ _), .nil => .nil
  | _, _, _, _, (.cons _ _), (.cons _ .nil) => .nil
  | _, _, _, _, (.cons _ _), (.cons _ (.cons _ .nil)) => .nil
  | _, _, _, _, (.cons _ _), (.cons q0 (.cons q1 (.cons q2 .nil))) => .nil
  | _, _, _, _, (.cons _ _), (.cons _ (.cons _ (.cons _ (.cons _ _)))) => .nil

abbrev s_law : Stmt := topS 24
theorem sc_law : FnScope ["script", "jar", "turn", "row", "want", "kept", "due", "again", "first", "span", "told"] ["script"] (defScope s_law) := ⟨rfl, rfl, rfl, by decide +kernel, rfl, by decide +kernel, by decide +kernel⟩

section
variable {P : Program} {w : World} {K : PySem.W.Frag} {mg : Str → Option Value} {base : Heap} {Ta : Addr}
/-- the worth of a stretch, the law's way -/
def sp_counted : Sp := fun vs H Q _ => ∃ (a y t : Addr) (rs : List Addr) (cs : List (Bool × Int)) (ws : List Int) (i j p : Nat), vs = [.ref a, .ref y, .ref t] ∧ Wish H a y rs cs ws ∧ H t = some (.tup [.int (i : Int), .int (j : Int), .int (p : Int)]) ∧ i ≤ j ∧ j < cs.length ∧ ∀ H', Same H H' → Q (.int (wth (val (bndL cs ws) p) i j)) H'
theorem ok_counted {f : Addr} {fd : FuncData} (o : Own K mg "_law_counted_here" s_law_counted_here ["row", "want", "span"] f fd) (T : Txt mg) : Cal P w K mg base CX0 1 "_law_counted_here" s_law_counted_here ["row", "want", "span"] sp_counted := by
  refine ⟨f, fd, o, ?_⟩
  refine Dok.calm o.F sc_law_counted_here (fun vs H Q E h => ?_) (fun cdv A outer s H vs Q E hr h => ?_)
  · obtain ⟨a, y, t, rs, cs, ws, i, j, p, rfl, _⟩ := h
    rfl
  obtain ⟨a, y, t, rs, cs, ws, i, j, p, rfl, hW, et, ij, jl, k⟩ := h
  refine ⟨_, (pss_cons (ps_asg (pv 2) (pg_tup rfl (pgs_cons (pg_name (i := 3) sc_law_counted_here.nd rfl (Or.inl rfl)) (pgs_cons (pg_name (i := 4) sc_law_counted_here.nd rfl (Or.inl rfl)) (pgs_cons (pg_name (i := 5) sc_law_counted_here.nd rfl (Or.inl rfl)) pgs_nil)))))
    (pss_cons (ps_set (i := 6) sc_law_counted_here.nd rfl (Or.inl rfl) pe_int)
    (pss_cons (ps_for PassesOwn.never rfl (pi_range2 rfl T.range (pa_cons (pv 3) (pa_cons (pe_op op_add (pv 4) pe_int) pa_nil))) (pg_name (i := 7) sc_law_counted_here.nd rfl (Or.inl rfl)) (pss_cons (ps_asg (pe_ix (k_ixL (K := K) rfl) (pv 0) (pv 7) (fun _ _ => rfl)) (pg_tup rfl (pgs_cons (pg_name (i := 8) sc_law_counted_here.nd rfl (Or.inl rfl)) (pgs_cons (pg_name (i := 9) sc_law_counted_here.nd rfl (Or.inl rfl)) pgs_nil))))
    (pss_cons (ps_if (PW.pt (pw_and (pt_cmpR op_eq (pe_op op_modN (pv 7) pe_int) (pv 5) (nomark _)) (pw_and1 (pt_cmpR (k_inSeq (K := K) rfl) (pv 7) (pv 1) rfl)))) (pss_one (ps_set (i := 6) sc_law_counted_here.nd rfl (Or.inl rfl) (pe_op op_add (pv 6) pe_int))) pss_nil)
    (pss_one (ps_if (PW.pt (pw_and (pt_cmpR op_ne (pe_op op_modN (pv 7) pe_int) (pv 5) (nomark _)) (pw_and1 (PW.pt (pw_or (pt_val (pv 8)) (pw_or1 (pt_cmpR (k_inSeq (K := K) rfl) (pv 7) (pv 1) rfl))))))) (pss_one (ps_set (i := 6) sc_law_counted_here.nd rfl (Or.inl rfl) (pe_op op_sub (pv 6) (pv 9)))) pss_nil)))))
    (pss_one (ps_ret (pv 6)))))), ?_⟩
  have hl := hW.l
  have e29 : (2 : Int) ^ 29 = 536870912 := by decide
  have e62 : (2 : Int) ^ 62 = 4611686018427387904 := by decide
  refine ⟨.ref t, rfl, t, _, rfl, SqT.of et, rfl, _, _, rfl, _, _, rfl, _, [], rfl, rfl, ?_⟩
  refine ⟨.int (i : Int), rfl, .int (j : Int), rfl, _, 1, rfl, rfl, _, _, rfl, ⟨by omega, by omega, by omega, by omega⟩, ?_⟩
  have en : ((j : Int) + 1 - (i : Int)).toNat = j + 1 - i := by omega
  have flat : (ws.map V.int).all flatV = true := by
    rw [List.all_eq_true]
    intro v hv
    obtain ⟨z, _, rfl⟩ := List.mem_map.mp hv
    rfl
  refine for_it walk_range (fun n σ H' => ∃ v7 v8 v9 : Option V, σ = [some (.ref a), some (.ref y), some (.ref t), some (.int (i : Int)), some (.int (j : Int)), some (.int (p : Int)), some (.int (pre (val (bndL cs ws) p) (i + n) - pre (val (bndL cs ws) p) i)), v7, v8, v9] ∧ H' = H) ⟨none, none, none, by rw [Nat.add_zero, Int.sub_self]; rfl, rfl⟩ (fun _ _ _ _ _ => True.intro) ?_ ?_
  · rintro n x σ H2 H2' hn ⟨v7, v8, v9, rfl, rfl⟩ ⟨rfl, rfl⟩
    rw [en] at hn
    have ein : (i : Int) + (n : Int) = ((i + n : Nat) : Int) := by omega
    have hin : i + n < cs.length := by omega
    obtain ⟨r, e1, e2⟩ := hW.c.atI (z := ((i + n : Nat) : Int)) (by omega) (by omega)
    rw [Int.toNat_natCast] at e2
    show gName 7 (V.int ((i : Int) + (n : Int))) _ _ _
    rw [ein]
    obtain ⟨c, hc⟩ : ∃ c, c = cs.getD (i + n) (false, 0) := ⟨_, rfl⟩
    rw [← hc] at e2
    obtain ⟨hh, lf⟩ := c
    have hv : val (bndL cs ws) p (i + n) = if ((i + n : Nat) : Int) % 2 = (p : Int) then fewAt ws (i + n) else -(mostAt cs ws (i + n)) := by
      unfold val
      rw [bndL_at hin]
    obtain ⟨F, hF⟩ : ∃ F, F = pre (val (bndL cs ws) p) (i + n) - pre (val (bndL cs ws) p) i := ⟨_, rfl⟩
    have hF1 : pre (val (bndL cs ws) p) (i + (n + 1)) - pre (val (bndL cs ws) p) i = F + val (bndL cs ws) p (i + n) := by
      rw [hF, ← Nat.add_assoc, pre_succ]
      omega
    rw [← hF, hF1]
    have two : (show Int from 2) ≠ 0 := by decide
    dsimp only [gName, tSeq]
    refine ⟨.ref a, rfl, .int _, rfl, a, _, _, .ref r, rfl, rfl, SqL.of hW.c.at_, e1, r, _, rfl, SqT.of e2, rfl, _, _, rfl, _, [], rfl, rfl, ?_⟩
    have hm : ∀ b : Bool, decide (((i + n : Nat) : Int) ∈ ws) = b → inV (.int ((i + n : Nat) : Int)) (ws.map V.int) = b := fun b e => by rw [inV_int, e]
    by_cases g : ((i + n : Nat) : Int) % 2 = (p : Int)
    · have g1 : V.int (((i + n : Nat) : Int).fmod 2) = V.int (p : Int) := by rw [fmod2, g]
      rw [hv, if_pos g]
      dsimp only [gName, tSeq]
      refine with_nx (t := tIfS _ _ _) (fun σ H' => σ = [some (.ref a), some (.ref y), some (.ref t), some (.int (i : Int)), some (.int (j : Int)), some (.int (p : Int)), some (.int (F + fewAt ws (i + n))), some (.int ((i + n : Nat) : Int)), some (.bl hh), some (.int lf)] ∧ H' = H2') ?_ (fun rest => ?_)
      · rintro σ H3 ⟨rfl, rfl⟩
        exact ⟨.int _, rfl, _, 2, rfl, rfl, two, .int (p : Int), rfl, rfl, false, bl_nn g1, iteF (iteF ⟨_, _, _, rfl, rfl⟩)⟩
      · refine ⟨.int _, rfl, _, 2, rfl, rfl, two, .int (p : Int), rfl, rfl, true, bl_tt g1, iteT ?_⟩
        refine ⟨.int _, rfl, .ref y, rfl, y, _, rfl, .inl (SqL.of hW.w), rfl, flat, ?_⟩
        by_cases m : ((i + n : Nat) : Int) ∈ ws
        · refine ⟨true, by rw [if_neg Bool.false_ne_true, hm true (decide_eq_true m)], iteT ⟨.int F, rfl, _, _, rfl, rfl, rest _ _ ⟨?_, rfl⟩⟩⟩
          unfold fewAt
          rw [if_pos m] <;> rfl
        · refine ⟨false, by rw [if_neg Bool.false_ne_true, hm false (decide_eq_false m)], iteF (rest _ _ ⟨?_, rfl⟩)⟩
          unfold fewAt
          rw [if_neg m, Int.add_zero] <;> rfl
    · have g1 : V.int (((i + n : Nat) : Int).fmod 2) ≠ V.int (p : Int) := fun z => g (by rw [← fmod2]; exact V.int.inj z)
      rw [hv, if_neg g]
      refine ⟨.int _, rfl, _, 2, rfl, rfl, two, .int (p : Int), rfl, rfl, false, bl_ff g1, iteF (iteF ?_)⟩
      refine ⟨.int _, rfl, _, 2, rfl, rfl, two, .int (p : Int), rfl, rfl, true, bl_ny g1, iteT ?_⟩
      cases hh with
      | true =>
        have e : mostAt cs ws (i + n) = lf := by
          unfold mostAt
          rw [← hc, if_pos (.inl rfl)]
        rw [e]
        exact ⟨.bl true, rfl, true, rfl, iteT (iteT ⟨.int F, rfl, .int lf, rfl, _, _, rfl, rfl, _, _, _, rfl, rfl⟩)⟩
      | false =>
        refine ⟨.bl false, rfl, false, rfl, iteF ⟨.int _, rfl, .ref y, rfl, y, _, rfl, .inl (SqL.of hW.w), rfl, flat, ?_⟩⟩
        show ∃ k, _ ∧ _
        by_cases m : ((i + n : Nat) : Int) ∈ ws
        · have e : mostAt cs ws (i + n) = lf := by
            unfold mostAt
            rw [← hc, if_pos (.inr m)]
          rw [e]
          exact ⟨true, by rw [if_neg Bool.false_ne_true, hm true (decide_eq_true m)], iteT ⟨.int F, rfl, .int lf, rfl, _, _, rfl, rfl, _, _, _, rfl, rfl⟩⟩
        · have e : mostAt cs ws (i + n) = 0 := by
            unfold mostAt
            rw [← hc, if_neg (fun z => z.elim (fun z => nomatch z) m)]
          rw [e, Int.neg_zero, Int.add_zero]
          exact ⟨false, by rw [if_neg Bool.false_ne_true, hm false (decide_eq_false m)], iteF ⟨_, _, _, rfl, rfl⟩⟩
  · rintro σ H2 ⟨v7, v8, v9, rfl, rfl⟩
    rw [en, show i + (j + 1 - i) = j + 1 by omega]
    exact ⟨.int _, rfl, k H2 (Same.refl _)⟩
def sp_law (K : PySem.W.Frag) (Ta : Addr) : Sp := fun vs H Q _ => ∃ (a : Addr) (ns : List Int), vs = [.ref a] ∧ SqL K H a (ns.map V.int) ∧ ns.length ≤ 63 ∧ H Ta = some (TabO Ta) ∧ ∀ H', H' Ta = some (TabO Ta) → Q (.bl true) H'
theorem ok_law {f : Addr} {fd : FuncData} (o : Own K mg "law" s_law ["script"] f fd) (T : Txt mg) (C_law_jar : Cal P w K mg base CX0 1 "_law_jar" s_law_jar ["script"] (sp_jar K)) (C_law_tap : Cal P w K mg base CX0 1 "_law_tap" s_law_tap ["jar", "wide"] sp_pull)
    (C_law_sized : Cal P w K mg base CX0 3 "_law_sized" s_law_sized ["jar"] sp_jsized) (C_law_torn : Cal P w K mg base CX0 1 "_law_torn" s_law_torn ["row", "want"] sp_jtorn) (C_law_top : Cal P w K mg base CX0 3 "_law_top" s_law_top ["row", "want"] sp_jgw)
    (C_law_alike : Cal P w K mg base CX0 4 "_law_alike" s_law_alike ["found", "due"] (sp_alike 3)) (C_law_counted_here : Cal P w K mg base CX0 1 "_law_counted_here" s_law_counted_here ["row", "want", "span"] sp_counted)
    (C_fewest : Cal P w K mg base CX0 3 "fewest" s_fewest ["strip", "wish"] (sp_fewest Ta)) (C_worth : Cal P w K mg base CX0 3 "worth" s_worth ["strip", "wish", "stretch"] sp_worth) : Dok P w K mg base CX0 5 f fd ["script"] (sp_law K Ta) := by
  refine Dok.calm o.F sc_law (fun vs H Q E h => ?_) (fun cdv A outer s H vs Q E hr h => ?_)
  · obtain ⟨a, ns, rfl, _⟩ := h
    rfl
  obtain ⟨a, ns, rfl, hS, hl, hT, k⟩ := h
  refine ⟨_, (pss_cons (ps_set (i := 1) sc_law.nd rfl (Or.inl rfl) (c_call C_law_jar (hr.mono (by omega)) pass0 (pa_cons (pv 0) pa_nil)))
    (pss_cons (ps_for PassesOwn.never rfl (pi_range1 rfl T.range (pa_cons (pe_op op_add pe_int (pe_callB (call_min2 rfl) (by rfl) T.min (by decide +kernel) (pa_cons pe_int (pa_cons (pe_callB (kc_len (K := K) rfl) (by rfl) T.len (by decide +kernel) (pa_cons (pv 0) pa_nil)) pa_nil)))) pa_nil)) (pg_name (i := 2) sc_law.nd rfl (Or.inl rfl)) (pss_cons (ps_asg (c_call C_law_sized (hr.mono (by omega)) pass0 (pa_cons (pv 1) pa_nil)) (pg_unl rfl (pgs_cons (pg_name (i := 3) sc_law.nd rfl (Or.inl rfl)) (pgs_cons (pg_name (i := 4) sc_law.nd rfl (Or.inl rfl)) pgs_nil))))
    (pss_cons (ps_set (i := 5) sc_law.nd rfl (Or.inl rfl) (pe_callB (kc_repr (K := K) rfl hr) (by rfl) T.repr (by decide +kernel) (pa_cons (pe_lst (pa_cons (pv 3) (pa_cons (pv 4) pa_nil))) pa_nil)))
    (pss_cons (ps_set (i := 6) sc_law.nd rfl (Or.inl rfl) (pe_ifExp (pt_cmpR (k_neD (K := K) rfl hr.r.units) (c_call C_law_torn (hr.mono (by omega)) pass0 (pa_cons (pv 3) (pa_cons (pv 4) pa_nil))) (pe_lst pa_nil) (nomark _)) pe_non (c_call C_law_top (hr.mono (by omega)) pass0 (pa_cons (pv 3) (pa_cons (pv 4) pa_nil)))))
    (pss_cons (ps_if (PW.pt (pw_or (pt_not (pt_val (c_call C_law_alike (hr.mono (by omega)) pass0 (pa_cons (c_call C_fewest (hr.mono (by omega)) pass0 (pa_cons (pv 3) (pa_cons (pv 4) pa_nil))) (pa_cons (pv 6) pa_nil))))) (pw_or1 (pt_not (pt_val (c_call C_law_alike (hr.mono (by omega)) pass0 (pa_cons (c_callN (g := @KW_fewest_0_wish_strip Value) (gV := @KW_fewest_0_wish_strip V) C_fewest (hr.mono (by omega)) pass0 (pk_cons (pv 4) (pk_cons (pv 3) pk_nil)) KW_fewest_0_wish_strip_b KW_fewest_0_wish_strip_r) (pa_cons (pv 6) pa_nil)))))))) (pss_one (ps_ret pe_bl)) pss_nil)
    (pss_one (ps_for PassesOwn.never rfl (pi_range1 rfl T.range (pa_cons pe_int pa_nil)) (pg_name (i := 7) sc_law.nd rfl (Or.inl rfl)) (pss_cons (ps_set (i := 8) sc_law.nd rfl (Or.inl rfl) (c_call C_law_tap (hr.mono (by omega)) pass0 (pa_cons (pv 1) (pa_cons (pe_callB (kc_len (K := K) rfl) (by rfl) T.len (by decide +kernel) (pa_cons (pv 3) pa_nil)) pa_nil))))
    (pss_cons (ps_set (i := 9) sc_law.nd rfl (Or.inl rfl) (pe_ix (k_ixL (K := K) rfl) (pe_lst (pa_cons (pe_tup (pa_cons (pv 8) (pa_cons (pe_op op_add (pv 8) (c_call C_law_tap (hr.mono (by omega)) pass0 (pa_cons (pv 1) (pa_cons (pe_op op_sub (pe_callB (kc_len (K := K) rfl) (by rfl) T.len (by decide +kernel) (pa_cons (pv 3) pa_nil)) (pv 8)) pa_nil)))) pa_nil))) (pa_cons (pe_tup (pa_cons pe_int (pa_cons (pe_op op_sub (pe_callB (kc_len (K := K) rfl) (by rfl) T.len (by decide +kernel) (pa_cons (pv 3) pa_nil)) pe_int) pa_nil))) pa_nil))) (pe_callTy call_int1 (by rfl) T.int (by decide +kernel) (pa_cons (pe_cmpR op_gt (pv 7) pe_int (nomark _)) pa_nil)) (fun _ _ => rfl)))
    (pss_cons (ps_set (i := 9) sc_law.nd rfl (Or.inl rfl) (pe_op op_catT (pv 9) (pe_tup (pa_cons (c_call C_law_tap (hr.mono (by omega)) pass0 (pa_cons (pv 1) (pa_cons pe_int pa_nil))) pa_nil))))
    (pss_cons (ps_set (i := 6) sc_law.nd rfl (Or.inl rfl) (c_call C_law_counted_here (hr.mono (by omega)) pass0 (pa_cons (pv 3) (pa_cons (pv 4) (pa_cons (pv 9) pa_nil)))))
    (pss_cons (ps_set (i := 10) sc_law.nd rfl (Or.inl rfl) (pe_lst (pa_cons (c_call C_worth (hr.mono (by omega)) pass0 (pa_cons (pv 3) (pa_cons (pv 4) (pa_cons (pv 9) pa_nil)))) (pa_cons (c_callN (g := @KW_worth_0_stretch_wish_strip Value) (gV := @KW_worth_0_stretch_wish_strip V) C_worth (hr.mono (by omega)) pass0 (pk_cons (pv 9) (pk_cons (pv 4) (pk_cons (pv 3) pk_nil))) KW_worth_0_stretch_wish_strip_b KW_worth_0_stretch_wish_strip_r) pa_nil))))
    (pss_one (ps_if (PW.pt (pw_or (pt_not (pt_val (c_call C_law_alike (hr.mono (by omega)) pass0 (pa_cons (pv 10) (pa_cons (pe_lst (pa_cons (pv 6) (pa_cons (pv 6) pa_nil))) pa_nil))))) (pw_or1 (pt_cmpR op_ne (pe_callB (kc_repr (K := K) rfl hr) (by rfl) T.repr (by decide +kernel) (pa_cons (pe_lst (pa_cons (pv 3) (pa_cons (pv 4) pa_nil))) pa_nil)) (pv 5) (nomark _))))) (pss_one (ps_ret pe_bl)) pss_nil))))))))))))))
    (pss_one (ps_ret pe_bl)))), ?_⟩
  refine ⟨.ref a, rfl, a, ns, rfl, hS, hl, fun p H1 hp s1 e1 => ?_⟩
  refine ⟨.ref a, rfl, a, _, rfl, .inl (s1.seq hS), 6, _, rfl, 2, _, rfl, rfl, _, rfl, ?_, ?_, ?_⟩
  · split <;> omega
  · rw [List.length_map]
    split <;> omega
  have top : ∀ {x : Int}, x = 2 + (if ((ns.map V.int).length : Int) < 6 then ((ns.map V.int).length : Int) else 6) → x.toNat ≤ 8 := by
    intro x e
    rw [e]
    split <;> omega
  refine for_it walk_range (fun i σ H' => ∃ (v2 v3 v4 v5 v6 v7 v8 v9 v10 : Option V) (n : Nat), σ = [some (.ref a), some (.ref p), v2, v3, v4, v5, v6, v7, v8, v9, v10] ∧ Same H H' ∧ H' p = some (rl n p) ∧ 1000000 ≤ n + 6000 * i) ⟨none, none, none, none, none, none, none, none, none, 1000000, rfl, s1, e1, by omega⟩ (fun _ _ _ _ _ => True.intro) ?_ ?_
  rotate_left
  · rintro σ H2 ⟨v2, v3, v4, v5, v6, v7, v8, v9, v10, n, rfl, s2, e2, hn⟩
    exact k _ (s2 _ _ hT)
  rintro i x σ H2 H2' hi ⟨v2, v3, v4, v5, v6, v7, v8, v9, v10, n, rfl, s2, e2, hn⟩ ⟨rfl, rfl⟩
  have hi8 : i < 8 := Nat.lt_of_lt_of_le hi (top rfl)
  have nT : Ta ≠ p := ne_of_none hT hp
  refine ⟨.ref p, rfl, p, n, rfl, e2, by omega, fun q S W H3 n3 rs cs ws g1 s3 nS nW nSW nq eq hW ok hb l1 l2 => ?_⟩
  refine ⟨q, _, rfl, SqL.of eq, rfl, _, _, rfl, _, [], rfl, rfl, ?_⟩
  have RP := pair_repr (cells_small hb) (ints_small (n := cs.length) (fun z hz => by have := hW.b z hz; omega) hW.l) hW.l hW.lw
  refine ⟨.ref S, rfl, .ref W, rfl, (by show 2 ≤ sizeLine; decide), fun l nl => ?_⟩
  have s4 := same_new (o := .lst [.ref S, .ref W]) nl
  refine ⟨l, _, rfl, (dt_pair (hW.same s4) upd_same).dp, RP.1, RP.2.1, RP.2.2, ?_⟩
  dsimp only [gName, tSeq]
  refine with_nx (t := tAsg _ _) (fun σ H' => σ = [some (.ref a), some (.ref p), some (.int (0 + i)), some (.ref S), some (.ref W), some (.str (pairD cs ws).shown), some (oV (fewO cs ws)), v7, v8, v9, v10] ∧ Same H3 H') ?_ (fun rest => ?_)
  rotate_left
  · refine ⟨.ref S, rfl, .ref W, rfl, S, W, rs, cs, ws, rfl, hW.same s4, fun tq H4 ntq s5 etq => ⟨Nat.zero_le _, fun e0 ne0 => ?_⟩⟩
    have s6 := same_new (o := .lst []) ne0
    have s36 := (s4.trans s5).trans s6
    have yes : torn cs ws ≠ none → fewO cs ws = none := fun h => by
      unfold fewO
      cases et : torn cs ws with
      | none => exact (h et).elim
      | some z => rfl
    by_cases ho : tornL cs ws = []
    · rw [ho] at etq
      refine neD (dt_intsL (ns := []) (s6 _ _ etq)) (dt_intsL (ns := []) upd_same) (shp_ints _) ⟨false, rfl, iteF ?_⟩
      have etn := torn_nil.mpr ho
      have ef : fewO cs ws = some (gw (bndL cs ws)) := by
        unfold fewO
        rw [etn]
      refine ⟨.ref S, rfl, .ref W, rfl, S, W, rs, cs, ws, rfl, hW.same s36, ok, fun H5 s7 => ?_⟩
      exact rest _ _ ⟨by rw [ef] <;> rfl, s36.trans s7⟩
    · refine ⟨intsD (tornL cs ws), intsD [], (dt_intsL (s6 _ _ etq)).dp, (dt_intsL (ns := []) upd_same).dp, shaped_of (shp_ints _), shaped_of (shp_ints _), true, by rw [eqv_ints_nil, decide_eq_false ho] <;> rfl, iteT ?_⟩
      exact rest _ _ ⟨by rw [yes fun z => ho (torn_nil.mp z)] <;> rfl, s36⟩
  rintro σ H4 ⟨rfl, s5⟩
  have r5 := s3.then s5
  have keep0 : ∀ {H'' : Hp} {n'' : Nat}, Sr p n n'' H2' H'' → H'' Ta = some (TabO Ta) := fun r => r.s _ _ nT (s2 _ _ hT)
  have hW4 := hW.same s5
  refine ⟨.ref S, rfl, .ref W, rfl, S, W, rs, cs, ws, rfl, keep0 r5, hW4, ok.ok, fun H5 s6 => ⟨_, rfl, _, _, oD (fewO cs ws), rfl, dt_oV _, dt_oV _, dep_oD _, fun H6 s7 => ⟨true, rfl, iteF ?_⟩⟩⟩
  have s67 := s6.trans s7
  refine ⟨.ref W, rfl, .ref S, rfl, S, W, rs, cs, ws, rfl, keep0 (r5.then s67), hW4.same s67, ok.ok, fun H7 s8 => ⟨_, rfl, _, _, oD (fewO cs ws), rfl, dt_oV _, dt_oV _, dep_oD _, fun H8 s9 => ⟨true, rfl, iteF ?_⟩⟩⟩
  have r8 := r5.then (s67.trans (s8.trans s9))
  have hW8 := hW4.same (s67.trans (s8.trans s9))
  generalize hdue : oV (fewO cs ws) = due
  have lrs : (rs.map V.ref).length = cs.length := by rw [List.length_map, hW.c.len]
  refine ⟨8, rfl, by decide, by decide, ?_⟩
  refine for_it walk_range (fun j σ H' => ∃ (v6 v7 v8 v9 v10 : Option V) (n4 : Nat), σ = [some (.ref a), some (.ref p), some (.int (0 + i)), some (.ref S), some (.ref W), some (.str (pairD cs ws).shown), v6, v7, v8, v9, v10] ∧ Sr p n n4 H2' H' ∧ Wish H' S W rs cs ws ∧ n3 ≤ n4 + 3 * j) ⟨_, v7, v8, v9, v10, n3, rfl, r8, hW8, by omega⟩ (fun _ _ _ _ _ => True.intro) ?_ ?_
  · rintro j x σ H9 H9' hj ⟨v6, v7, v8, v9, v10, n4, rfl, r9, hW9, hn4⟩ ⟨rfl, rfl⟩
    have hj8 : j < 8 := hj
    -- first
    refine ⟨.ref p, rfl, .ref S, rfl, S, _, rfl, .inl (SqL.of hW9.c.at_), p, _, n4, rfl, r9.b, by omega, by omega, by omega, fun f1 H10 s10 a1 b1 => ?_⟩
    rw [lrs] at b1
    have r10 := r9.trans s10
    have hW10 := hW9.sr s10
    -- span
    refine ⟨.int f1, rfl, .int f1, rfl, .ref p, rfl, .ref S, rfl, S, _, rfl, .inl (SqL.of hW10.c.at_), .int f1, rfl, _, _, rfl, rfl, p, _, n4 - 1, rfl, r10.b, by omega, by omega, by omega, fun f2 H11 s11 a2 b2 => ⟨_, _, rfl, rfl, (by show 2 ≤ sizeLine; decide), fun t1 nt1 => ?_⟩⟩
    rw [lrs] at b2
    have s12 := same_new (o := .tup [.int f1, .int (f1 + f2)]) nt1
    have hW11 := (hW10.sr s11).same s12
    have r11 := (r10.trans s11).then s12
    refine ⟨.ref S, rfl, S, _, rfl, .inl (SqL.of hW11.c.at_), _, 1, rfl, rfl, (by show 2 ≤ sizeLine; decide), fun t2 nt2 => ⟨(by show 2 ≤ sizeLine; decide), fun l3 nl3 => ?_⟩⟩
    refine ⟨.int (0 + (j : Int)), rfl, _, 6, rfl, rfl, .inr ⟨_, rfl, ?_⟩⟩
    have z13 := (same_new (o := .tup [.int 0, .int (((rs.map V.ref).length : Int) - 1)]) nt2).trans (same_new (o := .lst [.ref t1, .ref t2]) nl3)
    have x1 := z13 _ _ (show upd H11 t1 (.tup [.int f1, .int (f1 + f2)]) t1 = some (.tup [.int f1, .int (f1 + f2)]) from upd_same)
    have x2 := (same_new (o := .lst [.ref t1, .ref t2]) nl3) _ _ (show upd (upd H11 t1 (.tup [.int f1, .int (f1 + f2)])) t2 (.tup [.int 0, .int (((rs.map V.ref).length : Int) - 1)]) t2 = some (.tup [.int 0, .int (((rs.map V.ref).length : Int) - 1)]) from upd_same)
    have x3 : upd (upd (upd H11 t1 (.tup [.int f1, .int (f1 + f2)])) t2 (.tup [.int 0, .int (((rs.map V.ref).length : Int) - 1)])) l3 (.lst [.ref t1, .ref t2]) l3 = some (.lst [.ref t1, .ref t2]) := upd_same
    have r12 := r11.then z13
    have hW12 := hW11.same z13
    generalize upd (upd (upd H11 t1 (.tup [.int f1, .int (f1 + f2)])) t2 (.tup [.int 0, .int (((rs.map V.ref).length : Int) - 1)])) l3 (.lst [.ref t1, .ref t2]) = H12 at x1 x2 x3 r12 hW12
    obtain ⟨tx, A, B, ev, ex, hAB, hB⟩ : ∃ (tx : Addr) (A B : Nat), atI [V.ref t1, V.ref t2] (if decide (0 + (j : Int) > 6) = true then 1 else 0) = some (.ref tx) ∧ H12 tx = some (.tup [.int (A : Int), .int (B : Int)]) ∧ A ≤ B ∧ B < cs.length := by
      split
      · refine ⟨t2, 0, cs.length - 1, rfl, ?_, Nat.zero_le _, by omega⟩
        rw [x2, lrs]
        refine congrArg (fun z => some (HO.tup [V.int 0, V.int z])) ?_
        omega
      · refine ⟨t1, f1.toNat, (f1 + f2).toNat, rfl, ?_, by omega, by omega⟩
        rw [x1, Int.toNat_of_nonneg a1, Int.toNat_of_nonneg (by omega)]
    refine ⟨l3, _, _, .ref tx, rfl, rfl, SqL.of x3, ev, ?_⟩
    refine ⟨.ref tx, rfl, .ref p, rfl, p, 2, n4 - 1 - 1, rfl, r12.b, by omega, by decide, by decide, fun f3 H13 s14 a3 b3 => ⟨(by show 1 ≤ sizeLine; decide), fun t4 nt4 => ⟨tx, t4, _, [.int f3], rfl, rfl, SqT.of ((same_new nt4) _ _ (s14.tup ex)), SqT.of upd_same, (fun z => nomatch z), (by show 3 ≤ sizeLine; decide), fun z => (nomatch z), fun _ t5 nt5 => ?_⟩⟩⟩
    obtain ⟨pp, rfl⟩ := Int.eq_ofNat_of_zero_le a3
    have e5 : upd (upd H13 t4 (.tup [.int (pp : Int)])) t5 (.tup ([.int (A : Int), .int (B : Int)] ++ [.int (pp : Int)])) t5 = some (.tup [.int (A : Int), .int (B : Int), .int (pp : Int)]) := upd_same
    have z14 := (same_new (o := .tup [.int (pp : Int)]) nt4).trans (same_new (o := .tup ([.int (A : Int), .int (B : Int)] ++ [.int (pp : Int)])) nt5)
    have r13 := (r12.trans s14).then z14
    have hW13 := (hW12.sr s14).same z14
    generalize upd (upd H13 t4 (.tup [.int (pp : Int)])) t5 (.tup ([.int (A : Int), .int (B : Int)] ++ [.int (pp : Int)])) = H14 at e5 r13 hW13
    obtain ⟨d, hd⟩ : ∃ d, d = wth (val (bndL cs ws) pp) A B := ⟨_, rfl⟩
    refine ⟨.ref S, rfl, .ref W, rfl, .ref t5, rfl, S, W, t5, rs, cs, ws, A, B, pp, rfl, hW13, e5, hAB, hB, fun H15 s15 => ?_⟩
    refine ⟨.ref S, rfl, .ref W, rfl, .ref t5, rfl, S, W, t5, rs, cs, ws, A, B, pp, rfl, hW13.same s15, ok.ok, s15 _ _ e5, hAB, hB, fun H16 s16 => ?_⟩
    have s156 := s15.trans s16
    refine ⟨.ref t5, rfl, .ref W, rfl, .ref S, rfl, S, W, t5, rs, cs, ws, A, B, pp, rfl, hW13.same s156, ok.ok, s156 _ _ e5, hAB, hB, fun H17 s17 => ⟨(by show 2 ≤ sizeLine; decide), fun to nto => ?_⟩⟩
    rw [← hd]
    refine ⟨.ref to, rfl, .int d, rfl, .int d, rfl, (by show 2 ≤ sizeLine; decide), fun du ndu => ?_⟩
    have s18 := same_new (o := .lst [.int d, .int d]) nto
    have s19 := same_new (o := .lst [.int d, .int d]) ndu
    refine ⟨_, _, intsD [d, d], rfl, dt_intsL (ns := [d, d]) (s19 _ _ upd_same), dt_intsL (ns := [d, d]) upd_same, dep_ints (by show 2 ≤ 100000; decide), fun H20 s20 => ⟨true, rfl, iteF ?_⟩⟩
    have s21 := ((s156.trans s17).trans (s18.trans s19)).trans s20
    have r21 := r13.then s21
    have hW21 := hW13.same s21
    refine ⟨.ref S, rfl, .ref W, rfl, (by show 2 ≤ sizeLine; decide), fun l4 nl4 => ?_⟩
    have s22 := same_new (o := .lst [.ref S, .ref W]) nl4
    refine ⟨l4, _, rfl, (dt_pair (hW21.same s22) upd_same).dp, RP.1, RP.2.1, RP.2.2, .str _, rfl, rfl, false, bl_nn rfl, iteF ?_⟩
    exact ⟨_, _, _, _, _, _, rfl, r21.then s22, hW21.same s22, by omega⟩
  · rintro σ H9 ⟨v6, v7, v8, v9, v10, n4, rfl, r9, hW9, hn4⟩
    exact ⟨_, _, _, _, _, _, _, _, _, n4, rfl, same_old s2 r9 hp, r9.b, by omega⟩
end
theorem all_mk {l : PySem.W.OpenLaw} {w : World} {K : PySem.W.Frag} {h : Heap} {mg : Str → Option Value} {fa c Ta : Addr} (X : K.In h) (G : h.Ns mainGlobals mg) (hfa : mg "law" = some (.ref fa)) (hcd : ∀ (f : Addr) (o : Obj) (fd : FuncData), mg "cell_without_pass" = some (.ref f) → K.lookup f = some o → o.data = .func fd → fd.code = .ref c)
    {f1 : Addr} {od1 an1 : Option Addr} {sl1 : Array (Option Value)} {oc1 kV1 dc1 pm1 cd1 ct1 : Value}
    {f2 : Addr} {od2 an2 : Option Addr} {sl2 : Array (Option Value)} {oc2 kV2 dc2 pm2 cd2 ct2 : Value}
    {f3 : Addr} {od3 an3 : Option Addr} {sl3 : Array (Option Value)} {oc3 kV3 dc3 pm3 cd3 ct3 : Value}
    {f4 : Addr} {od4 an4 : Option Addr} {sl4 : Array (Option Value)} {oc4 kV4 dc4 pm4 cd4 ct4 : Value}
    {f5 : Addr} {od5 an5 : Option Addr} {sl5 : Array (Option Value)} {oc5 kV5 dc5 pm5 cd5 ct5 : Value}
    {f6 : Addr} {od6 an6 : Option Addr} {sl6 : Array (Option Value)} {oc6 kV6 dc6 pm6 cd6 ct6 : Value}
    {f7 : Addr} {od7 an7 : Option Addr} {sl7 : Array (Option Value)} {oc7 kV7 dc7 pm7 cd7 ct7 : Value}
    {f8 : Addr} {od8 an8 : Option Addr} {sl8 : Array (Option Value)} {oc8 kV8 dc8 pm8 cd8 ct8 : Value}
    {f9 : Addr} {od9 an9 : Option Addr} {sl9 : Array (Option Value)} {oc9 kV9 dc9 pm9 cd9 ct9 : Value}
    {f10 : Addr} {od10 an10 : Option Addr} {sl10 : Array (Option Value)} {oc10 kV10 dc10 pm10 cd10 ct10 : Value}
    {f11 : Addr} {od11 an11 : Option Addr} {sl11 : Array (Option Value)} {oc11 kV11 dc11 pm11 cd11 ct11 : Value}
    {f12 : Addr} {od12 an12 : Option Addr} {sl12 : Array (Option Value)} {oc12 kV12 dc12 pm12 cd12 ct12 : Value}
    {f13 : Addr} {od13 an13 : Option Addr} {sl13 : Array (Option Value)} {oc13 kV13 dc13 pm13 cd13 ct13 : Value}
    {f14 : Addr} {od14 an14 : Option Addr} {sl14 : Array (Option Value)} {oc14 kV14 dc14 pm14 cd14 ct14 : Value}
    {f15 : Addr} {od15 an15 : Option Addr} {sl15 : Array (Option Value)} {oc15 kV15 dc15 pm15 cd15 ct15 : Value}
    {f16 : Addr} {od16 an16 : Option Addr} {sl16 : Array (Option Value)} {oc16 kV16 dc16 pm16 cd16 ct16 : Value}
    {f17 : Addr} {od17 an17 : Option Addr} {sl17 : Array (Option Value)} {oc17 kV17 dc17 pm17 cd17 ct17 : Value}
    {f18 : Addr} {od18 an18 : Option Addr} {sl18 : Array (Option Value)} {oc18 kV18 dc18 pm18 cd18 ct18 : Value}
    {f19 : Addr} {od19 an19 : Option Addr} {sl19 : Array (Option Value)} {oc19 kV19 dc19 pm19 cd19 ct19 : Value}
    {f20 : Addr} {od20 an20 : Option Addr} {sl20 : Array (Option Value)} {oc20 kV20 dc20 pm20 cd20 ct20 : Value}
    (a1 : PySem.W.nsIn K mainGlobals "is_rising" = some (some (.ref f1)))
    (l1 : K.lookup f1 = some ⟨oc1, od1, .func (PySem.W.fnOf "is_rising" "is_rising" (defArgs s_is_rising) (defBody s_is_rising) (defScope s_is_rising) .none kV1 dc1 pm1 an1 cd1 ct1), sl1⟩)
    (c1 : PySem.W.codeIn K cd1 "is_rising" = true)
    (k1 : PySem.W.keepIn K (.ref f1) = true)
    (a2 : PySem.W.nsIn K mainGlobals "fewest" = some (some (.ref f2)))
    (l2 : K.lookup f2 = some ⟨oc2, od2, .func (PySem.W.fnOf "fewest" "fewest" (defArgs s_fewest) (defBody s_fewest) (defScope s_fewest) .none kV2 dc2 pm2 an2 cd2 ct2), sl2⟩)
    (c2 : PySem.W.codeIn K cd2 "fewest" = true)
    (k2 : PySem.W.keepIn K (.ref f2) = true)
    (a3 : PySem.W.nsIn K mainGlobals "worth" = some (some (.ref f3)))
    (l3 : K.lookup f3 = some ⟨oc3, od3, .func (PySem.W.fnOf "worth" "worth" (defArgs s_worth) (defBody s_worth) (defScope s_worth) .none kV3 dc3 pm3 an3 cd3 ct3), sl3⟩)
    (c3 : PySem.W.codeIn K cd3 "worth" = true)
    (k3 : PySem.W.keepIn K (.ref f3) = true)
    (a4 : PySem.W.nsIn K mainGlobals "bounds_of" = some (some (.ref f4)))
    (l4 : K.lookup f4 = some ⟨oc4, od4, .func (PySem.W.fnOf "bounds_of" "bounds_of" (defArgs s_bounds_of) (defBody s_bounds_of) (defScope s_bounds_of) .none kV4 dc4 pm4 an4 cd4 ct4), sl4⟩)
    (c4 : PySem.W.codeIn K cd4 "bounds_of" = true)
    (k4 : PySem.W.keepIn K (.ref f4) = true)
    (a5 : PySem.W.nsIn K mainGlobals "cell_without_pass" = some (some (.ref f5)))
    (l5 : K.lookup f5 = some ⟨oc5, od5, .func (PySem.W.fnOf "cell_without_pass" "cell_without_pass" (defArgs s_cell_without_pass) (defBody s_cell_without_pass) (defScope s_cell_without_pass) .none kV5 dc5 pm5 an5 cd5 ct5), sl5⟩)
    (c5 : PySem.W.codeIn K cd5 "cell_without_pass" = true)
    (k5 : PySem.W.keepIn K (.ref f5) = true)
    (a6 : PySem.W.nsIn K mainGlobals "worth_of" = some (some (.ref f6)))
    (l6 : K.lookup f6 = some ⟨oc6, od6, .func (PySem.W.fnOf "worth_of" "worth_of" (defArgs s_worth_of) (defBody s_worth_of) (defScope s_worth_of) .none kV6 dc6 pm6 an6 cd6 ct6), sl6⟩)
    (c6 : PySem.W.codeIn K cd6 "worth_of" = true)
    (k6 : PySem.W.keepIn K (.ref f6) = true)
    (a7 : PySem.W.nsIn K mainGlobals "_greatest_worth" = some (some (.ref f7)))
    (l7 : K.lookup f7 = some ⟨oc7, od7, .func (PySem.W.fnOf "_greatest_worth" "_greatest_worth" (defArgs s_greatest_worth) (defBody s_greatest_worth) (defScope s_greatest_worth) .none kV7 dc7 pm7 an7 cd7 ct7), sl7⟩)
    (c7 : PySem.W.codeIn K cd7 "_greatest_worth" = true)
    (k7 : PySem.W.keepIn K (.ref f7) = true)
    (a8 : PySem.W.nsIn K mainGlobals "_law_jar" = some (some (.ref f8)))
    (l8 : K.lookup f8 = some ⟨oc8, od8, .func (PySem.W.fnOf "_law_jar" "_law_jar" (defArgs s_law_jar) (defBody s_law_jar) (defScope s_law_jar) .none kV8 dc8 pm8 an8 cd8 ct8), sl8⟩)
    (c8 : PySem.W.codeIn K cd8 "_law_jar" = true)
    (k8 : PySem.W.keepIn K (.ref f8) = true)
    (a9 : PySem.W.nsIn K mainGlobals "_law_tap" = some (some (.ref f9)))
    (l9 : K.lookup f9 = some ⟨oc9, od9, .func (PySem.W.fnOf "_law_tap" "_law_tap" (defArgs s_law_tap) (defBody s_law_tap) (defScope s_law_tap) .none kV9 dc9 pm9 an9 cd9 ct9), sl9⟩)
    (c9 : PySem.W.codeIn K cd9 "_law_tap" = true)
    (k9 : PySem.W.keepIn K (.ref f9) = true)
    (a10 : PySem.W.nsIn K mainGlobals "_law_row" = some (some (.ref f10)))
    (l10 : K.lookup f10 = some ⟨oc10, od10, .func (PySem.W.fnOf "_law_row" "_law_row" (defArgs s_law_row) (defBody s_law_row) (defScope s_law_row) .none kV10 dc10 pm10 an10 cd10 ct10), sl10⟩)
    (c10 : PySem.W.codeIn K cd10 "_law_row" = true)
    (k10 : PySem.W.keepIn K (.ref f10) = true)
    (a11 : PySem.W.nsIn K mainGlobals "_law_want" = some (some (.ref f11)))
    (l11 : K.lookup f11 = some ⟨oc11, od11, .func (PySem.W.fnOf "_law_want" "_law_want" (defArgs s_law_want) (defBody s_law_want) (defScope s_law_want) .none kV11 dc11 pm11 an11 cd11 ct11), sl11⟩)
    (c11 : PySem.W.codeIn K cd11 "_law_want" = true)
    (k11 : PySem.W.keepIn K (.ref f11) = true)
    (a12 : PySem.W.nsIn K mainGlobals "_law_long" = some (some (.ref f12)))
    (l12 : K.lookup f12 = some ⟨oc12, od12, .func (PySem.W.fnOf "_law_long" "_law_long" (defArgs s_law_long) (defBody s_law_long) (defScope s_law_long) .none kV12 dc12 pm12 an12 cd12 ct12), sl12⟩)
    (c12 : PySem.W.codeIn K cd12 "_law_long" = true)
    (k12 : PySem.W.keepIn K (.ref f12) = true)
    (a13 : PySem.W.nsIn K mainGlobals "_law_sized" = some (some (.ref f13)))
    (l13 : K.lookup f13 = some ⟨oc13, od13, .func (PySem.W.fnOf "_law_sized" "_law_sized" (defArgs s_law_sized) (defBody s_law_sized) (defScope s_law_sized) .none kV13 dc13 pm13 an13 cd13 ct13), sl13⟩)
    (c13 : PySem.W.codeIn K cd13 "_law_sized" = true)
    (k13 : PySem.W.keepIn K (.ref f13) = true)
    (a14 : PySem.W.nsIn K mainGlobals "_law_bears" = some (some (.ref f14)))
    (l14 : K.lookup f14 = some ⟨oc14, od14, .func (PySem.W.fnOf "_law_bears" "_law_bears" (defArgs s_law_bears) (defBody s_law_bears) (defScope s_law_bears) .none kV14 dc14 pm14 an14 cd14 ct14), sl14⟩)
    (c14 : PySem.W.codeIn K cd14 "_law_bears" = true)
    (k14 : PySem.W.keepIn K (.ref f14) = true)
    (a15 : PySem.W.nsIn K mainGlobals "_law_both" = some (some (.ref f15)))
    (l15 : K.lookup f15 = some ⟨oc15, od15, .func (PySem.W.fnOf "_law_both" "_law_both" (defArgs s_law_both) (defBody s_law_both) (defScope s_law_both) .none kV15 dc15 pm15 an15 cd15 ct15), sl15⟩)
    (c15 : PySem.W.codeIn K cd15 "_law_both" = true)
    (k15 : PySem.W.keepIn K (.ref f15) = true)
    (a16 : PySem.W.nsIn K mainGlobals "_law_top" = some (some (.ref f16)))
    (l16 : K.lookup f16 = some ⟨oc16, od16, .func (PySem.W.fnOf "_law_top" "_law_top" (defArgs s_law_top) (defBody s_law_top) (defScope s_law_top) .none kV16 dc16 pm16 an16 cd16 ct16), sl16⟩)
    (c16 : PySem.W.codeIn K cd16 "_law_top" = true)
    (k16 : PySem.W.keepIn K (.ref f16) = true)
    (a17 : PySem.W.nsIn K mainGlobals "_law_torn" = some (some (.ref f17)))
    (l17 : K.lookup f17 = some ⟨oc17, od17, .func (PySem.W.fnOf "_law_torn" "_law_torn" (defArgs s_law_torn) (defBody s_law_torn) (defScope s_law_torn) .none kV17 dc17 pm17 an17 cd17 ct17), sl17⟩)
    (c17 : PySem.W.codeIn K cd17 "_law_torn" = true)
    (k17 : PySem.W.keepIn K (.ref f17) = true)
    (a18 : PySem.W.nsIn K mainGlobals "_law_alike" = some (some (.ref f18)))
    (l18 : K.lookup f18 = some ⟨oc18, od18, .func (PySem.W.fnOf "_law_alike" "_law_alike" (defArgs s_law_alike) (defBody s_law_alike) (defScope s_law_alike) .none kV18 dc18 pm18 an18 cd18 ct18), sl18⟩)
    (c18 : PySem.W.codeIn K cd18 "_law_alike" = true)
    (k18 : PySem.W.keepIn K (.ref f18) = true)
    (a19 : PySem.W.nsIn K mainGlobals "_law_counted_here" = some (some (.ref f19)))
    (l19 : K.lookup f19 = some ⟨oc19, od19, .func (PySem.W.fnOf "_law_counted_here" "_law_counted_here" (defArgs s_law_counted_here) (defBody s_law_counted_here) (defScope s_law_counted_here) .none kV19 dc19 pm19 an19 cd19 ct19), sl19⟩)
    (c19 : PySem.W.codeIn K cd19 "_law_counted_here" = true)
    (k19 : PySem.W.keepIn K (.ref f19) = true)
    (a20 : PySem.W.nsIn K mainGlobals "law" = some (some (.ref f20)))
    (l20 : K.lookup f20 = some ⟨oc20, od20, .func (PySem.W.fnOf "law" "law" (defArgs s_law) (defBody s_law) (defScope s_law) .none kV20 dc20 pm20 an20 cd20 ct20), sl20⟩)
    (c20 : PySem.W.codeIn K cd20 "law" = true)
    (k20 : PySem.W.keepIn K (.ref f20) = true)
    (z_abs : PySem.W.nsIn K mainGlobals "abs" = some none)
    (z_all : PySem.W.nsIn K mainGlobals "all" = some none)
    (z_any : PySem.W.nsIn K mainGlobals "any" = some none)
    (z_bool : PySem.W.nsIn K mainGlobals "bool" = some none)
    (z_enumerate : PySem.W.nsIn K mainGlobals "enumerate" = some none)
    (z_int : PySem.W.nsIn K mainGlobals "int" = some none)
    (z_isinstance : PySem.W.nsIn K mainGlobals "isinstance" = some none)
    (z_len : PySem.W.nsIn K mainGlobals "len" = some none)
    (z_list : PySem.W.nsIn K mainGlobals "list" = some none)
    (z_max : PySem.W.nsIn K mainGlobals "max" = some none)
    (z_min : PySem.W.nsIn K mainGlobals "min" = some none)
    (z_next : PySem.W.nsIn K mainGlobals "next" = some none)
    (z_range : PySem.W.nsIn K mainGlobals "range" = some none)
    (z_repr : PySem.W.nsIn K mainGlobals "repr" = some none)
    (z_set : PySem.W.nsIn K mainGlobals "set" = some none)
    (z_tuple : PySem.W.nsIn K mainGlobals "tuple" = some none)
    (z_zip : PySem.W.nsIn K mainGlobals "zip" = some none)
    (y_nt : PySem.W.noTabs K = true) :
    PySem.W.noTabs K = true ∧ ∃ fd : FuncData, (∀ (s : Shared) (v : Value), BindsTo s fd ⟨[v], []⟩ [("script", v)]) ∧ ∀ base : Heap, K.In base → base.Ns mainGlobals mg → GxR.TabB base mg c Ta → Dok l.prog w K mg base CX0 5 fa fd ["script"] (sp_law K Ta) := by
  have e := hfa.symm.trans (PySem.W.mg_of X G a20)
  cases e
  have T : Txt mg := { abs := PySem.W.mg_none_of X G z_abs, all := PySem.W.mg_none_of X G z_all, any := PySem.W.mg_none_of X G z_any, bool := PySem.W.mg_none_of X G z_bool, enumerate := PySem.W.mg_none_of X G z_enumerate, int := PySem.W.mg_none_of X G z_int, isinstance := PySem.W.mg_none_of X G z_isinstance, len := PySem.W.mg_none_of X G z_len, list := PySem.W.mg_none_of X G z_list, max := PySem.W.mg_none_of X G z_max, min := PySem.W.mg_none_of X G z_min, next := PySem.W.mg_none_of X G z_next, range := PySem.W.mg_none_of X G z_range, repr := PySem.W.mg_none_of X G z_repr, set := PySem.W.mg_none_of X G z_set, tuple := PySem.W.mg_none_of X G z_tuple, zip := PySem.W.mg_none_of X G z_zip }
  have o_is_rising : Own K mg "is_rising" s_is_rising ["numbers", "end"] f1 _ := ⟨fun_mk l1 c1 k1, PySem.W.mg_of X G a1, (fun_mk (st := s_is_rising) l1 c1 k1).binds (ps := ["numbers", "end"]) fun _ _ _ _ _ _ us hl => match us, hl with | [_, _], _ => rfl⟩
  have o_fewest : Own K mg "fewest" s_fewest ["strip", "wish"] f2 _ := ⟨fun_mk l2 c2 k2, PySem.W.mg_of X G a2, (fun_mk (st := s_fewest) l2 c2 k2).binds (ps := ["strip", "wish"]) fun _ _ _ _ _ _ us hl => match us, hl with | [_, _], _ => rfl⟩
  have o_worth : Own K mg "worth" s_worth ["strip", "wish", "stretch"] f3 _ := ⟨fun_mk l3 c3 k3, PySem.W.mg_of X G a3, (fun_mk (st := s_worth) l3 c3 k3).binds (ps := ["strip", "wish", "stretch"]) fun _ _ _ _ _ _ us hl => match us, hl with | [_, _, _], _ => rfl⟩
  have o_bounds_of : Own K mg "bounds_of" s_bounds_of ["strip", "wish"] f4 _ := ⟨fun_mk l4 c4 k4, PySem.W.mg_of X G a4, (fun_mk (st := s_bounds_of) l4 c4 k4).binds (ps := ["strip", "wish"]) fun _ _ _ _ _ _ us hl => match us, hl with | [_, _], _ => rfl⟩
  have o_cell_without_pass : Own K mg "cell_without_pass" s_cell_without_pass ["strip", "wish"] f5 _ := ⟨fun_mk l5 c5 k5, PySem.W.mg_of X G a5, (fun_mk (st := s_cell_without_pass) l5 c5 k5).binds (ps := ["strip", "wish"]) fun _ _ _ _ _ _ us hl => match us, hl with | [_, _], _ => rfl⟩
  have o_worth_of : Own K mg "worth_of" s_worth_of ["bounds", "cells", "parity"] f6 _ := ⟨fun_mk l6 c6 k6, PySem.W.mg_of X G a6, (fun_mk (st := s_worth_of) l6 c6 k6).binds (ps := ["bounds", "cells", "parity"]) fun _ _ _ _ _ _ us hl => match us, hl with | [_, _, _], _ => rfl⟩
  have o_greatest_worth : Own K mg "_greatest_worth" s_greatest_worth ["bounds"] f7 _ := ⟨fun_mk l7 c7 k7, PySem.W.mg_of X G a7, (fun_mk (st := s_greatest_worth) l7 c7 k7).binds (ps := ["bounds"]) fun _ _ _ _ _ _ us hl => match us, hl with | [_], _ => rfl⟩
  have o_law_jar : Own K mg "_law_jar" s_law_jar ["script"] f8 _ := ⟨fun_mk l8 c8 k8, PySem.W.mg_of X G a8, (fun_mk (st := s_law_jar) l8 c8 k8).binds (ps := ["script"]) fun _ _ _ _ _ _ us hl => match us, hl with | [_], _ => rfl⟩
  have o_law_tap : Own K mg "_law_tap" s_law_tap ["jar", "wide"] f9 _ := ⟨fun_mk l9 c9 k9, PySem.W.mg_of X G a9, (fun_mk (st := s_law_tap) l9 c9 k9).binds (ps := ["jar", "wide"]) fun _ _ _ _ _ _ us hl => match us, hl with | [_, _], _ => rfl⟩
  have o_law_row : Own K mg "_law_row" s_law_row ["jar", "most", "bears"] f10 _ := ⟨fun_mk l10 c10 k10, PySem.W.mg_of X G a10, (fun_mk (st := s_law_row) l10 c10 k10).binds (ps := ["jar", "most", "bears"]) fun _ _ _ _ _ _ us hl => match us, hl with | [_, _, _], _ => rfl⟩
  have o_law_want : Own K mg "_law_want" s_law_want ["jar", "row"] f11 _ := ⟨fun_mk l11 c11 k11, PySem.W.mg_of X G a11, (fun_mk (st := s_law_want) l11 c11 k11).binds (ps := ["jar", "row"]) fun _ _ _ _ _ _ us hl => match us, hl with | [_, _], _ => rfl⟩
  have o_law_long : Own K mg "_law_long" s_law_long ["jar", "row"] f12 _ := ⟨fun_mk l12 c12 k12, PySem.W.mg_of X G a12, (fun_mk (st := s_law_long) l12 c12 k12).binds (ps := ["jar", "row"]) fun _ _ _ _ _ _ us hl => match us, hl with | [_, _], _ => rfl⟩
  have o_law_sized : Own K mg "_law_sized" s_law_sized ["jar"] f13 _ := ⟨fun_mk l13 c13 k13, PySem.W.mg_of X G a13, (fun_mk (st := s_law_sized) l13 c13 k13).binds (ps := ["jar"]) fun _ _ _ _ _ _ us hl => match us, hl with | [_], _ => rfl⟩
  have o_law_bears : Own K mg "_law_bears" s_law_bears ["row", "want"] f14 _ := ⟨fun_mk l14 c14 k14, PySem.W.mg_of X G a14, (fun_mk (st := s_law_bears) l14 c14 k14).binds (ps := ["row", "want"]) fun _ _ _ _ _ _ us hl => match us, hl with | [_, _], _ => rfl⟩
  have o_law_both : Own K mg "_law_both" s_law_both ["row", "want"] f15 _ := ⟨fun_mk l15 c15 k15, PySem.W.mg_of X G a15, (fun_mk (st := s_law_both) l15 c15 k15).binds (ps := ["row", "want"]) fun _ _ _ _ _ _ us hl => match us, hl with | [_, _], _ => rfl⟩
  have o_law_top : Own K mg "_law_top" s_law_top ["row", "want"] f16 _ := ⟨fun_mk l16 c16 k16, PySem.W.mg_of X G a16, (fun_mk (st := s_law_top) l16 c16 k16).binds (ps := ["row", "want"]) fun _ _ _ _ _ _ us hl => match us, hl with | [_, _], _ => rfl⟩
  have o_law_torn : Own K mg "_law_torn" s_law_torn ["row", "want"] f17 _ := ⟨fun_mk l17 c17 k17, PySem.W.mg_of X G a17, (fun_mk (st := s_law_torn) l17 c17 k17).binds (ps := ["row", "want"]) fun _ _ _ _ _ _ us hl => match us, hl with | [_, _], _ => rfl⟩
  have o_law_alike : Own K mg "_law_alike" s_law_alike ["found", "due"] f18 _ := ⟨fun_mk l18 c18 k18, PySem.W.mg_of X G a18, (fun_mk (st := s_law_alike) l18 c18 k18).binds (ps := ["found", "due"]) fun _ _ _ _ _ _ us hl => match us, hl with | [_, _], _ => rfl⟩
  have o_law_counted_here : Own K mg "_law_counted_here" s_law_counted_here ["row", "want", "span"] f19 _ := ⟨fun_mk l19 c19 k19, PySem.W.mg_of X G a19, (fun_mk (st := s_law_counted_here) l19 c19 k19).binds (ps := ["row", "want", "span"]) fun _ _ _ _ _ _ us hl => match us, hl with | [_, _, _], _ => rfl⟩
  have o_law : ∀ fd, Fun K "law" "law" s_law fa fd → Own K mg "law" s_law ["script"] fa fd := fun fd F => ⟨F, PySem.W.mg_of X G a20, F.binds (ps := ["script"]) fun _ _ _ _ _ _ us hl => match us, hl with | [_], _ => rfl⟩
  have hcode := hcd _ _ _ (PySem.W.mg_of X G a5) l5 rfl
  refine ⟨y_nt, PySem.W.fnOf "law" "law" (defArgs s_law) (defBody s_law) (defScope s_law) .none kV20 dc20 pm20 an20 cd20 ct20, fun s v => .of_eq rfl, fun base _ _ TB => ?_⟩
  have o := o_law _ (fun_mk (st := s_law) l20 c20 k20)
  have C_cwp := ok_cwp (P := l.prog) (w := w) (base := base) o_cell_without_pass T hcode TB
  have C_isr := ok_is_rising (P := l.prog) (w := w) (base := base) o_is_rising T
  have C_bnd := ok_bounds o_bounds_of T C_isr
  have C_gw := ok_gw (P := l.prog) (w := w) (base := base) o_greatest_worth T
  have C_few := ok_fewest o_fewest T C_bnd C_cwp C_gw
  have C_tap := ok_tap (P := l.prog) (w := w) (base := base) o_law_tap
  have C_jar := ok_jar (P := l.prog) (w := w) (base := base) o_law_jar T
  have C_row := ok_jrow o_law_row T C_tap
  have C_want := ok_jwant o_law_want T C_tap
  have C_long := ok_jlong o_law_long T C_tap
  have C_sized := ok_jsized o_law_sized T C_tap C_row C_want C_long
  have C_bears := ok_jbears (P := l.prog) (w := w) (base := base) o_law_bears T
  have C_both := ok_jboth o_law_both T C_bears
  have C_top := ok_jgw o_law_top T C_both
  have C_torn := ok_jtorn (P := l.prog) (w := w) (base := base) o_law_torn T
  have C_alike := ok_alike (P := l.prog) (w := w) (base := base) o_law_alike T 3
  have C_counted := ok_counted (P := l.prog) (w := w) (base := base) o_law_counted_here T
  have C_wof := ok_worth_of (P := l.prog) (w := w) (base := base) o_worth_of T
  have C_worth := ok_worth o_worth T C_bnd C_wof
  exact ok_law o T C_jar C_tap C_sized C_torn C_top C_alike C_counted C_few C_worth
theorem walk {l : PySem.W.OpenLaw} {q : Program} {loose : List Str} {XP : (Str → Option Value) → Heap → Prop} {YP : World → Heap → Prop} {d : DefRec} {K : Params → PySem.W.Frag} (hn : l.most = some 63) (hdf : d.params.defaults = [])
    (hY : ∀ (w : World) (h : Heap), YP w h → (K w.params).In h) (hrec : ((recsOf q).any fun e => e.name == ("cell_without_pass" : Str)) = true)
    (F : ∀ (w : World) (mg : Str → Option Value) (fa c Ta : Addr) (h : Heap), (K w.params).In h → h.Ns mainGlobals mg → mg d.name = some (.ref fa) → (∀ (f : Addr) (o : Obj) (fd : FuncData), mg "cell_without_pass" = some (.ref f) → (K w.params).lookup f = some o → o.data = .func fd → fd.code = .ref c) →
      PySem.W.noTabs (K w.params) = true ∧ ∃ fd : FuncData, (∀ (s : Shared) (u : Value), BindsTo s fd ⟨[u], []⟩ [("script", u)]) ∧ ∀ base : Heap, (K w.params).In base → base.Ns mainGlobals mg → GxR.TabB base mg c Ta → Dok l.prog w (K w.params) mg base CX0 5 fa fd ["script"] (sp_law (K w.params) Ta)) :
    PySem.W.WalkO q loose XP YP l.row.toRowW d [] (fun f vs => PySem.call f vs) :=
  walkT (n := 63) (k := 5) (x := "script") (dn := "cell_without_pass") (sp := fun w Ta => sp_law (K w.params) Ta) hn (by decide) hdf ⟨rfl, ⟨rfl, by decide, by decide⟩⟩ hY hrec F (fun _ _ a _ ns hl hT hS => ⟨a, ns, rfl, hS, hl, hT, fun _ h => ⟨rfl, h⟩⟩)
end Lw
open PySem PySem.W PyProof.Rows in
set_option maxRecDepth 100000 in
set_option maxHeartbeats 0 in
theorem PySem.Challenge.cw_pleatpunch_k32_worths_of_stretches_holds : PySem.Challenge.rw_pleatpunch_k32_worths_of_stretches.Holds := by
  w_on; o_law; k_head; (case hw => w_witness2)
  k_fill
  refine Lw.walk (l := PySem.Challenge.rw_pleatpunch_k32_worths_of_stretches) rfl rfl (fun w h Y => PySem.W.kIn_of Y) ?hrec ?F
  case hrec => decide +kernel
  case F =>
    intro w mg fa c Ta h KX G hmg hcd
    refine' Lw.all_mk KX G hmg hcd ?a1 ?l1 ?c1 ?k1 ?a2 ?l2 ?c2 ?k2 ?a3 ?l3 ?c3 ?k3 ?a4 ?l4 ?c4 ?k4 ?a5 ?l5 ?c5 ?k5 ?a6 ?l6 ?c6 ?k6 ?a7 ?l7 ?c7 ?k7 ?a8 ?l8 ?c8 ?k8 ?a9 ?l9 ?c9 ?k9 ?a10 ?l10 ?c10 ?k10 ?a11 ?l11 ?c11 ?k11 ?a12 ?l12 ?c12 ?k12 ?a13 ?l13 ?c13 ?k13 ?a14 ?l14 ?c14 ?k14 ?a15 ?l15 ?c15 ?k15 ?a16 ?l16 ?c16 ?k16 ?a17 ?l17 ?c17 ?k17 ?a18 ?l18 ?c18 ?k18 ?a19 ?l19 ?c19 ?k19 ?a20 ?l20 ?c20 ?k20 ?z_abs ?z_all ?z_any ?z_bool ?z_enumerate ?z_int ?z_isinstance ?z_len ?z_list ?z_max ?z_min ?z_next ?z_range ?z_repr ?z_set ?z_tuple ?z_zip ?y_nt
    (case a1 => k_is)
    (case l1 => k_is)
    (case c1 => k_is)
    (case k1 => k_is)
    (case a2 => k_is)
    (case l2 => k_is)
    (case c2 => k_is)
    (case k2 => k_is)
    (case a3 => k_is)
    (case l3 => k_is)
    (case c3 => k_is)
    (case k3 => k_is)
    (case a4 => k_is)
    (case l4 => k_is)
    (case c4 => k_is)
    (case k4 => k_is)
    (case a5 => k_is)
    (case l5 => k_is)
    (case c5 => k_is)
    (case k5 => k_is)
    (case a6 => k_is)
    (case l6 => k_is)
    (case c6 => k_is)
    (case k6 => k_is)
    (case a7 => k_is)
    (case l7 => k_is)
    (case c7 => k_is)
    (case k7 => k_is)
    (case a8 => k_is)
    (case l8 => k_is)
    (case c8 => k_is)
    (case k8 => k_is)
    (case a9 => k_is)
    (case l9 => k_is)
    (case c9 => k_is)
    (case k9 => k_is)
    (case a10 => k_is)
    (case l10 => k_is)
    (case c10 => k_is)
    (case k10 => k_is)
    (case a11 => k_is)
    (case l11 => k_is)
    (case c11 => k_is)
    (case k11 => k_is)
    (case a12 => k_is)
    (case l12 => k_is)
    (case c12 => k_is)
    (case k12 => k_is)
    (case a13 => k_is)
    (case l13 => k_is)
    (case c13 => k_is)
    (case k13 => k_is)
    (case a14 => k_is)
    (case l14 => k_is)
    (case c14 => k_is)
    (case k14 => k_is)
    (case a15 => k_is)
    (case l15 => k_is)
    (case c15 => k_is)
    (case k15 => k_is)
    (case a16 => k_is)
    (case l16 => k_is)
    (case c16 => k_is)
    (case k16 => k_is)
    (case a17 => k_is)
    (case l17 => k_is)
    (case c17 => k_is)
    (case k17 => k_is)
    (case a18 => k_is)
    (case l18 => k_is)
    (case c18 => k_is)
    (case k18 => k_is)
    (case a19 => k_is)
    (case l19 => k_is)
    (case c19 => k_is)
    (case k19 => k_is)
    (case a20 => k_is)
    (case l20 => k_is)
    (case c20 => k_is)
    (case k20 => k_is)
    (case z_abs => k_is)
    (case z_all => k_is)
    (case z_any => k_is)
    (case z_bool => k_is)
    (case z_enumerate => k_is)
    (case z_int => k_is)
    (case z_isinstance => k_is)
    (case z_len => k_is)
    (case z_list => k_is)
    (case z_max => k_is)
    (case z_min => k_is)
    (case z_next => k_is)
    (case z_range => k_is)
    (case z_repr => k_is)
    (case z_set => k_is)
    (case z_tuple => k_is)
    (case z_zip => k_is)
    (case y_nt => first | kernel_rfl | rfl | k_is)


