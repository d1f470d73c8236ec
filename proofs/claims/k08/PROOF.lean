import PyProof.Rows.All
import Wide.All
import OpenK.AllK
import Wide.FinOn
import HandS.Base
import HandS.Call
import HandS.List
import HandS.Comp
import HandS.Ends
import HandS.Dict
import HandS.Iter
import HandS.Text
import HandS.Words
import HandS.WordsList
import HandS.Exc
import HandS.TryOnly
import HandS.ExcOwn
import HandS.IsInst
import HandS.Zip
import HandS.Walk
import HandS.Wide
import HandS.Flow
import HandS.Style
import HandS.FStr
import HandS.StrMore
import HandS.Star
import HandS.Conv
import PyProof.ReprRoads
import PyProof.SetRoads
import HandS.ExcIs
import KE.KTryMore
import HandS.WordsExc
import HandS.ExcValue
import PySem.Challenge.RW_pleatpunch_k08_one_strip_grown_in_place
set_option Elab.async false
set_option linter.all false
set_option maxRecDepth 100000
set_option maxHeartbeats 4000000

namespace Xi
open PySem PySem.Spec PyProof.Rows L2

/-! ## room for calls, and nothing is being written out -/
structure Rm (k : Nat) (A : Around) : Prop where
  g : A.guards = some []
  r : Room k A
theorem Rm.mono {j k : Nat} {A : Around} (h : Rm k A) (l : j ≤ k) : Rm j A := ⟨h.g, h.r.mono l⟩

/-- what a def keeps, where nothing is being written out -/
structure Dok (P : Program) (w : World) (K : PySem.W.Frag) (mg : Str → Option Value) (base : Heap) (CX : CXT) (k : Nat) (f : Addr) (fd : FuncData) (ps : List Str) (sp : Sp) : Prop where
  len : ∀ vs H Q E, sp vs H Q E → vs.length = ps.length
  run : ∀ (A : Around) (outer : List Env) (s : Shared) (H : Hp) (args : Args) (us : List Value) (vs : List V) (Q : VK) (E : XK),
    Rm k A → Env0 P w K mg base A outer s H → BindsTo s fd args (ps.zip us) → Vals vs us → sp vs H Q E → codeAny (model P w) A (.call (.ref f) args) (CR CX outer P w H s Q E) s

section
variable {P : Program} {w : World} {K : PySem.W.Frag} {mg : Str → Option Value} {base : Heap} {CX : CXT} {k j : Nat} {f : Addr} {fd : FuncData} {ps : List Str} {sp sp' : Sp}
theorem Dok.mono (F : Dok P w K mg base CX j f fd ps sp) (h : j ≤ k) : Dok P w K mg base CX k f fd ps sp :=
  ⟨F.len, fun A outer s H args us vs Q E hr => F.run A outer s H args us vs Q E (hr.mono h)⟩
theorem Dok.imp (F : Dok P w K mg base CX k f fd ps sp) (h : ∀ vs H Q E, sp' vs H Q E → sp vs H Q E) : Dok P w K mg base CX k f fd ps sp' :=
  ⟨fun vs H Q E q => F.len vs H Q E (h _ _ _ _ q), fun A outer s H args us vs Q E hr he hb hv hs => F.run A outer s H args us vs Q E hr he hb hv (h _ _ _ _ hs)⟩

theorem Dok.body {x qual : Str} {st : Stmt} {N : List Str} (F : Fun K x qual st f fd) (S : FnScope N ps (defScope st)) (len : ∀ vs H Q E, sp vs H Q E → vs.length = ps.length)
    (hb : ∀ (cdv : Value) (A : Around) (outer : List Env) (s : Shared) (H : Hp) (vs : List V) (Q : VK) (E : XK), Rm k (A.deeper (envOfC qual (defScope st) s.heap.objs.size f cdv)) → sp vs H Q E →
      ∃ t, PSs (cxOf CX P w K mg base N qual (defScope st) f cdv A outer s H E) (defBody st) t ∧ t { nx := fun _ H' => Q .non H', rt := Q } (start N vs) H) : Dok P w K mg base CX (k + 1) f fd ps sp := by
  obtain ⟨oc, od, kV, doc, pm, an, cdv, ct, osl, rfl, lk, hcd⟩ := F.ex
  constructor
  · exact len
  intro A outer s H args us vs Q E hr e0 hbd r hsp
  have hl := len _ _ _ _ hsp
  have KX : K.In s.heap := e0.mod.kin.keeps fun b o e => (e0.bs b o e).1
  have lim := e0.mod.nolimit.keeps (h' := s.heap) fun b o e => (e0.bs b o e).1
  have hkind : ∀ y ∈ ps.zip us, (defScope st).names.lookup y.1 = some .local ∨ ((defScope st).names.lookup y.1 = some .cell ∧ ((cellsFrom (s.heap.objs.size + 1) (defScope st).names []).lookup y.1).isSome = true) := by
    rintro ⟨n, v⟩ hy
    have q := S.par n (List.of_mem_zip hy).1
    cases q with
    | inl q => exact Or.inl q
    | inr q => exact Or.inr ⟨q, PySem.W.cellsFrom_some _ _ _ (Or.inl q)⟩
  refine codeAny_call_function hr.r.depth (KX _ _ lk) rfl S.co S.gen rfl (PySem.W.codeRec_of KX hcd) (hbd _ _ _ _ ?_)
  refine wpAny_newFunctionEnv_cells S.kind hkind ?_
  intro env he s1 x
  subst he
  refine ⟨lim.keeps x.toInCall.keep, ?_⟩
  refine codeAny_func ?_
  obtain ⟨t, ht, hq⟩ := hb cdv A outer s H vs Q E ⟨hr.g, hr.r.deeper _⟩ hsp
  have I := inv_start (CX := CX) (P := P) (w := w) (K := K) (mg := mg) (base := base) (f := f) (E := E) S hr.r.hd e0 hl r x
  refine wpAny_mono (ht.run [] s1 (start N vs) H _ I hq) ?_ fun e s' hs => hs
  intro fl s' hs
  cases fl with
  | ret u =>
    obtain ⟨v, σ', H', J, rv, q⟩ := hs
    exact ⟨v, H', J.os, J.bare, J.base, J.hok, rv, q⟩
  | next =>
    obtain ⟨σ', H', J, q⟩ := hs
    exact ⟨V.non, H', J.os, J.bare, J.base, J.hok, rfl, q⟩
  | brk =>
    obtain ⟨_, _, _, q⟩ := hs
    exact q.elim
  | cont =>
    obtain ⟨_, _, _, q⟩ := hs
    exact q.elim
end

/-! ## calls -/
section
variable {X : Cx} {CX : CXT} {k : Nat} {f C : Addr} {fd : FuncData} {ps : List Str} {sp : Sp} {dvs : List V} {ds : List Value} {E : XK} {x m : Str} {p pos apos : Pos} {e o : Expr} {es : List Expr} {ta : TE} {t tk : TA} {kws : List Keyword} {ks : List Str}
  {g : List Value → List Value → List Value} {gV : List V → List V → List V}
theorem Dok.after (F : Dok X.prog X.w X.K X.mg X.base CX k f fd ps sp) (hr : Rm k X.A) (hx : Passes CX X E) {pins : List (Addr × Obj)} {σ : L2.St} {H : Hp} {s : Shared} {Q : VK} {args : Args} {us : List Value} {vs : List V}
    (I : Inv X pins σ H s) (r : Vals vs us) (hb : BindsTo s fd args (ps.zip us)) (h : sp vs H Q E) : codeAny (model X.prog X.w) X.A (.call (.ref f) args) (fun r s' => match r with | .ok (.ret u) => EP X pins σ Q u s' | .ok _ => False | .error e => X.xe e s') s := by
  refine codeAny_mono (F.run X.A X.stack s H args us vs Q E hr I.env0 hb r h) ?_
  intro r s' hq
  cases r with
  | error e => exact hx pins σ H s e s' I hq
  | ok fl =>
    cases fl with
    | ret u => exact I.after hq
    | next => exact hq.elim
    | brk => exact hq.elim
    | cont => exact hq.elim
theorem ends {M : Model} {A : Around} {Q E : Value → Shared → Prop} {v : Value} {us : List Value} {kw : List (Str × Value)} {s : Shared}
    (h : codeAny M A (.call v ⟨us, kw⟩) (fun r s' => match r with | .ok (.ret u) => Q u s' | .ok _ => False | .error e => E e s') s) : wpAny M A (call v us kw) Q E s := by
  refine wpAny_call (codeAny_mono h ?_)
  intro r s' hq
  cases r with
  | error e => exact hq
  | ok fl => cases fl <;> exact hq
/-- f(a, ..) -/
theorem d_call (F : Dok X.prog X.w X.K X.mg X.base CX k f fd ps sp) (hr : Rm k X.A) (hg : Gl X x) (hm : X.mg x = some (.ref f)) (hk : PySem.W.keepIn X.K (.ref f) = true) (hb : Binds X.K fd ps ds) (hd : Vals dvs ds) (hx : Passes CX X E)
    (ha : PA X (e :: es) t) (hdb : (x == ("__debug__" : Str)) = false := by decide) (he : starEach (e :: es) X.env = (false, eval e X.env) :: starEach es X.env := by rfl) (hpl : (backTo pos (starEach es X.env)).any (·.1) = false := by rfl) :
    PE X (.Call (.Name x p) (e :: es) [] pos) (tCall sp dvs E t) := by
  constructor
  intro pins s σ H Q I h
  refine wpAny_Call_Name_kw (ld_glob I hg hm ?_ hdb)
  refine PySem.W.callWith_K (h₀ := X.base) I.ok.mod.kin hk (thn (ha.run pos pins s σ H _ I h) ?_) he hpl
  rintro us s1 ⟨vs, H1, I1, r, q⟩
  refine ⟨I1.kIn, ?_⟩
  have r2 : Vals (vs ++ dvs) (us ++ ds) := r.append hd
  refine ends (F.after hr hx I1 r2 (hb s1 us I1.kIn ?_) q)
  rw [← r2.length]
  exact F.len _ _ _ _ q
/-- f() -/
theorem d_call0 (F : Dok X.prog X.w X.K X.mg X.base CX k f fd ps sp) (hr : Rm k X.A) (hg : Gl X x) (hm : X.mg x = some (.ref f)) (hk : PySem.W.keepIn X.K (.ref f) = true) (hb : Binds X.K fd ps ds) (hd : Vals dvs ds) (hx : Passes CX X E)
    (hdb : (x == ("__debug__" : Str)) = false := by decide) : PE X (.Call (.Name x p) [] [] pos) (tCall sp dvs E tNil) := by
  constructor
  intro pins s σ H Q I h
  refine wpAny_Call_Name_kw (ld_glob I hg hm ?_ hdb)
  refine PySem.W.callWith_K0 I.kIn hk ?_
  have r2 : Vals ([] ++ dvs) ([] ++ ds) := Vals.append .nil hd
  refine ends (F.after hr hx I r2 (hb s [] I.kIn ?_) h)
  rw [← r2.length]
  exact F.len _ _ _ _ h
/-- f(a, .., k = v, ..) -/
theorem d_callK (F : Dok X.prog X.w X.K X.mg X.base CX k f fd ps sp) (hr : Rm k X.A) (hg : Gl X x) (hm : X.mg x = some (.ref f)) (hk : PySem.W.keepIn X.K (.ref f) = true) (hb : KBinds X.K fd ps ks g gV) (hx : Passes CX X E)
    (ha : PA X (e :: es) t) (hkw : PK X kws tk) (hall : (backToKw pos (keywordEach kws X.env)).all (·.1.isSome) = true := by rfl) (hks : (backToKw pos (keywordEach kws X.env)).filterMap (·.1) = ks := by rfl)
    (hdb : (x == ("__debug__" : Str)) = false := by decide) (he : starEach (e :: es) X.env = (false, eval e X.env) :: starEach es X.env := by rfl)
    (hpl : ((backTo pos (starEach (e :: es) X.env)).any (·.1) || (backToKw pos (keywordEach kws X.env)).any (·.1.isNone)) = false := by rfl) :
    PE X (.Call (.Name x p) (e :: es) kws pos) (tCallK sp gV E t tk) := by
  constructor
  intro pins s σ H Q I h
  refine wpAny_Call_Name_kw (ld_glob I hg hm ?_ hdb)
  refine PySem.W.callWith_KW (h₀ := X.base) I.ok.mod.kin hk hall (thn (ha.run pos pins s σ H _ I h) ?_) hpl he
  rintro us s1 ⟨vs, H1, I1, r, q⟩
  refine thn (hkw.run pos pins s1 σ H1 _ I1 q) ?_
  rintro ws s2 ⟨zs, H2, I2, rz, q2⟩
  refine ⟨I2.kIn, ?_⟩
  rw [hks]
  have r2 := hb.rel r rz
  refine ends (F.after hr hx I2 r2 (hb.to s2 us ws I2.kIn ?_) q2)
  rw [← r2.length]
  exact F.len _ _ _ _ q2
/-- f(k = v, ..) -/
theorem d_callN (F : Dok X.prog X.w X.K X.mg X.base CX k f fd ps sp) (hr : Rm k X.A) (hg : Gl X x) (hm : X.mg x = some (.ref f)) (hk : PySem.W.keepIn X.K (.ref f) = true) (hb : KBinds X.K fd ps ks g gV) (hx : Passes CX X E)
    (hkw : PK X kws tk) (hall : (backToKw pos (keywordEach kws X.env)).all (·.1.isSome) = true := by rfl) (hks : (backToKw pos (keywordEach kws X.env)).filterMap (·.1) = ks := by rfl)
    (hdb : (x == ("__debug__" : Str)) = false := by decide)
    (hpl : ((backTo pos (starEach [] X.env)).any (·.1) || (backToKw pos (keywordEach kws X.env)).any (·.1.isNone)) = false := by rfl) :
    PE X (.Call (.Name x p) [] kws pos) (tCallK sp gV E tNil tk) := by
  constructor
  intro pins s σ H Q I h
  refine wpAny_Call_Name_kw (ld_glob I hg hm ?_ hdb)
  refine PySem.W.callWith_KW0 (h₀ := X.base) I.ok.mod.kin hk hall ?_ hpl
  refine thn (hkw.run pos pins s σ H _ I h) ?_
  rintro ws s2 ⟨zs, H2, I2, rz, q2⟩
  refine ⟨I2.kIn, ?_⟩
  rw [hks]
  have r2 := hb.rel (.nil : Vals [] []) rz
  refine ends (F.after hr hx I2 r2 (hb.to s2 [] ws I2.kIn ?_) q2)
  rw [← r2.length]
  exact F.len _ _ _ _ q2
end
end Xi

namespace Xi
open PySem PySem.Spec PyProof.Rows L2
/-! ## the end: a law's def, called with the script -/
section
variable {P : Program} {w : World} {K : PySem.W.Frag} {mg mb : Str → Option Value} {k : Nat} {fa a : Addr} {fd : FuncData} {x : Str} {sp : Sp} {s : Shared} {us : List Value} {ns : List Int}
theorem at_top (KX : K.In s.heap) (n1 : s.heap.Ns mainGlobals mg) (n2 : s.heap.Ns builtinsNs mb) (n3 : ∀ y : Str, y ≠ "__name__" → mb y = bootBuiltins y) (lim : s.heap.NoLimit) (hg : s.gens = #[]) (hr : Rm k callerA)
    (F : ∀ base : Heap, K.In base → base.Ns mainGlobals mg → Dok P w K mg base CX0 k fa fd [x] sp) (hb : ∀ (s : Shared) (u : Value), BindsTo s fd ⟨[u], []⟩ [(x, u)])
    {H : Hp} (ok : HOk P w H s.heap) (one : ∀ b u, H b = some u → b = a ∧ K.lookup a = none ∧ u = .frz { cls := .type "list", data := .seq us.toArray } (.lst (ns.map V.int)))
    (ha : s.heap.get? a = some { cls := .type "list", data := .seq us.toArray }) (h : sp [.ref a] H (fun v _ => v = .bl true) fun _ _ _ => False) :
    codeAny (model P w) callerA (.call (.ref fa) ⟨[.ref a], []⟩) (fun r s' => r = .ok (.ret (.bool true)) ∧ OldK s.heap s'.heap ∧ s'.os = s.os ∧ AllBare s'.gens) s := by
  have free : ∀ {b : Addr} {o : Obj}, s.heap.get? b = some o → b ≠ a ∨ K.lookup a ≠ none → H b = none := by
    intro b o e d
    cases q : H b with
    | none => rfl
    | some u =>
      obtain ⟨e1, e2, _⟩ := one b u q
      cases d with
      | inl d => exact (d e1).elim
      | inr d => exact (d e2).elim
  have low : ∀ {b : Addr} {o : Obj}, s.heap.get? b = some o → H b = none → (hidT s.heap H).get? b = some o := fun e n => hidT_get e n
  have ns_ : ∀ {b : Addr} {m : Str → Option Value}, s.heap.Ns b m → (hidT s.heap H).Ns b m := by
    rintro b m ⟨o, es, ep, e, d, r⟩
    refine ⟨o, es, ep, low e (free e (.inl ?_)), d, r⟩
    rintro rfl
    rw [ha] at e
    cases e
    cases d
  have kin : K.In (hidT s.heap H) := by
    intro b o e
    refine low (KX b o e) (free (KX b o e) ?_)
    by_cases eb : b = a
    · subst eb
      refine .inr fun z => ?_
      rw [z] at e
      cases e
    · exact .inl eb
  have M : Mod K mg (hidT s.heap H) := by
    obtain ⟨mc, h1, h2⟩ := lim
    exact ⟨kin, ns_ n1, ⟨mb, ns_ n2, n3⟩, ⟨mc, ns_ h1, h2⟩⟩
  have e0 : Env0 P w K mg (hidT s.heap H) callerA [] s H := by
    refine ⟨rfl, M, fun b o e => of_hidT e, Nat.le_of_eq (hidT_size _ _), True.intro, ?_, ok, .of_eq hg⟩
    intro b hb
    cases (show b ∈ ([] : List Addr) from hb)
  refine codeAny_mono ((F _ kin (ns_ n1)).run callerA [] s H ⟨[.ref a], []⟩ [.ref a] [.ref a] _ _ hr e0 (hb s (.ref a)) (.cons rfl .nil) h) ?_
  intro r s' hq
  cases r with
  | error e => exact hq.elim
  | ok fl =>
    cases fl with
    | next => exact hq.elim
    | brk => exact hq.elim
    | cont => exact hq.elim
    | ret u =>
      obtain ⟨v, H', os, bare, un, ok', r', q⟩ := hq
      cases (show v = .bl true from q)
      cases (show u = Value.bool true from r')
      refine ⟨rfl, OldK.of_keep ?_, os, bare⟩
      intro b o e
      cases q2 : H b with
      | none =>
        refine un.keep b o e q2 ?_ ?_ <;> (intro z; cases (show b ∈ ([] : List Addr) from z))
      | some u2 =>
        obtain ⟨rfl, _, rfl⟩ := one b u2 q2
        obtain ⟨e2, _⟩ := ok' b _ (un.frzs b _ _ q2)
        rw [ha] at e
        cases e
        exact e2

/-- the heap in which the script alone is tracked -/
def HScr (a : Addr) (us : List Value) (ns : List Int) : Hp := fun b => if b = a then some (.frz { cls := .type "list", data := .seq us.toArray } (.lst (ns.map V.int))) else none

theorem walkX {l : PySem.W.OpenLaw} {n k : Nat} {q : Program} {loose : List Str} {XP : (Str → Option Value) → Heap → Prop} {YP : World → Heap → Prop} {d : DefRec} {K : Params → PySem.W.Frag} {sp : World → Sp} {x : Str}
    (hn : l.most = some n) (hn2 : n ≤ sizeLine) (hdf : d.params.defaults = []) (hr : Rm k callerA) (hY : ∀ (w : World) (h : Heap), YP w h → (K w.params).In h)
    (F : ∀ (w : World) (mg : Str → Option Value) (fa : Addr) (h : Heap), (K w.params).In h → h.Ns mainGlobals mg → mg d.name = some (.ref fa) →
      ∃ fd : FuncData, (∀ (s : Shared) (u : Value), BindsTo s fd ⟨[u], []⟩ [(x, u)]) ∧ ∀ base : Heap, (K w.params).In base → base.Ns mainGlobals mg → Dok l.prog w (K w.params) mg base CX0 k fa fd [x] (sp w))
    (hsp : ∀ (w : World) (H : Hp) (a : Addr) (ns : List Int), ns.length ≤ n → SqL (K w.params) H a (ns.map V.int) → sp w [.ref a] H (fun v _ => v = .bl true) fun _ _ _ => False) :
    PySem.W.WalkO q loose XP YP l.row.toRowW d [] (fun f vs => PySem.call f vs) := by
  refine Att.attach_call hn hdf ?_
  intro w s₀ s₁ mg mb fa o pm cd doc a vs ns G Y ho hd hcd hmg hobj hints hlen hg
  have KX := hY w _ Y
  obtain ⟨fd, hb, hF⟩ := F w mg fa _ KX G.T.g hmg
  have hl : ns.length ≤ sizeLine := Nat.le_trans hlen hn2
  have rv := vals_ints hints
  have lv := hints.length
  cases hk : (K w.params).lookup a with
  | some ob =>
    have e := KX a ob hk
    rw [hobj] at e
    cases e
    refine at_top (us := vs) (ns := ns) (H := fun _ => none) KX G.T.g G.T.b G.T.builtins G.T.nolimit hg hr hF hb (fun _ _ e => by cases e) (fun _ _ e => by cases e) hobj (hsp w _ a ns hlen ?_)
    exact .inr ⟨_, vs.toArray, _, hk, rfl, rfl, rfl, by rw [List.size_toArray, lv]; exact hl, by simpa using rv⟩
  | none =>
    have at_ : HScr a vs ns a = some (.frz { cls := .type "list", data := .seq vs.toArray } (.lst (ns.map V.int))) := if_pos rfl
    refine at_top (us := vs) (ns := ns) (H := HScr a vs ns) KX G.T.g G.T.b G.T.builtins G.T.nolimit hg hr hF hb ?_ ?_ hobj (hsp w _ a ns hlen (.inl (.inr ⟨_, at_⟩)))
    · intro b u e
      by_cases eb : b = a
      · subst eb
        cases at_.symm.trans e
        exact ⟨hobj, by rw [List.length_map]; exact hl, vs, _, rv, hobj⟩
      · cases (if_neg eb).symm.trans e
    · intro b u e
      by_cases eb : b = a
      · subst eb
        cases at_.symm.trans e
        exact ⟨rfl, hk, rfl⟩
      · cases (if_neg eb).symm.trans e
end
end Xi

namespace Xi
open PySem PySem.Spec PyProof.Rows L2
/-! ## the reel: a list of three ints that is drawn from; n: how many draws it is good for -/
def RB (n : Nat) (x y z : Int) : Prop := 0 ≤ x ∧ 0 ≤ y ∧ y < 2 ^ 200 ∧ 0 ≤ z ∧ z + (n : Int) ≤ 1000000000
theorem RB.less {n m : Nat} {x y z : Int} (h : RB n x y z) (l : m ≤ n) : RB m x y z := by
  obtain ⟨a, b, c, d, e⟩ := h
  exact ⟨a, b, c, d, by omega⟩
def reelL (x y z : Int) : HO := .lst [.int x, .int y, .int z]
def ReelO (n : Nat) (p : Addr) : Heap → Prop := fun h => ∃ (x y z : Int) (t1 t2 t3 : Tok) (k : Nat), h.get? p = some { cls := .type "list", data := .seq #[.int x t1, .int y t2, .int z t3] k } ∧ RB n x y z
def rl (n : Nat) (p : Addr) : HO := .ext (ReelO n p)

theorem three_of {x y z : Int} {its : List Value} (h : Vals [.int x, .int y, .int z] its) : ∃ t1 t2 t3, its = [.int x t1, .int y t2, .int z t3] := by
  cases h with
  | cons a h =>
    cases h with
    | cons b h =>
      cases h with
      | cons c h =>
        cases h
        obtain ⟨t1, rfl⟩ := a
        obtain ⟨t2, rfl⟩ := b
        obtain ⟨t3, rfl⟩ := c
        exact ⟨t1, t2, t3, rfl⟩

section
variable {P : Program} {w : World} {K : PySem.W.Frag} {mg : Str → Option Value} {base : Heap} {k : Nat} {f : Addr} {fd : FuncData} {ps : List Str} {sp spX : Sp} {H H1 : Hp} {h : Heap} {p : Addr} {n : Nat} {x y z : Int}
theorem seen_other {o o' : HO} (ok : HOk P w (upd H p o) h) (n1 : ∀ c, o ≠ .own c) (n2 : ∀ xs, o ≠ .tup xs) (at_ : ObjOk P w (upd H p o') h p o') : HOk P w (upd H p o') h := by
  intro b u e
  by_cases eb : b = p
  · subst eb
    rw [upd_same] at e
    cases e
    exact at_
  · rw [upd_ne eb] at e
    refine (ok b u (by rw [upd_ne eb]; exact e)).stay (fun _ _ _ q => q) ?_ ?_
    · intro c q
      by_cases ec : c = p
      · subst ec
        rw [upd_same] at q
        exact (n1 _ (Option.some.inj q)).elim
      · rw [upd_ne ec] at q ⊢
        exact q
    · intro c xs q
      by_cases ec : c = p
      · subst ec
        rw [upd_same] at q
        exact (n2 _ (Option.some.inj q)).elim
      · rw [upd_ne ec] at q ⊢
        exact q
theorem reel_close (ok : HOk P w (upd H p (reelL x y z)) h) (b : RB n x y z) : HOk P w (upd H p (rl n p)) h := by
  refine seen_other ok (fun _ e => by cases e) (fun _ e => by cases e) ?_
  obtain ⟨_, its, m, r, e⟩ := ok p _ upd_same
  obtain ⟨t1, t2, t3, rfl⟩ := three_of r
  refine ⟨⟨x, y, z, t1, t2, t3, m, e, b⟩, ⟨_, e⟩, ?_⟩
  rintro h1 h2 ⟨x, y, z, t1, t2, t3, m, e, b⟩ st
  exact ⟨x, y, z, t1, t2, t3, m, st _ e, b⟩
theorem reel_open (ok : HOk P w H h) (hp : H p = some (rl n p)) : ∃ x y z, RB n x y z ∧ HOk P w (upd H p (reelL x y z)) h := by
  obtain ⟨⟨x, y, z, t1, t2, t3, m, e, b⟩, _⟩ := ok p _ hp
  have eH : upd H p (rl n p) = H := by
    funext c
    unfold upd
    split
    · rename_i q
      rw [q, hp]
    · rfl
  refine ⟨x, y, z, b, ?_⟩
  rw [← eH] at ok
  refine seen_other ok (fun _ q => by cases q) (fun _ q => by cases q) ?_
  exact ⟨by show 3 ≤ sizeLine; decide, [.int x t1, .int y t2, .int z t3], m, .cons ⟨t1, rfl⟩ (.cons ⟨t2, rfl⟩ (.cons ⟨t3, rfl⟩ .nil)), e⟩
/-- the same objects are tracked, what leans on nothing else as it was -/
structure Vw (H H1 : Hp) : Prop where
  n : ∀ b, H b = none ↔ H1 b = none
  t : ∀ b xs, H b = some (.tup xs) ↔ H1 b = some (.tup xs)
  f : ∀ b o u, H b = some (.frz o u) ↔ H1 b = some (.frz o u)
  c : ∀ b ts, H b = some (.tbl ts) ↔ H1 b = some (.tbl ts)
theorem Vw.of {o o' : HO} (hp : H p = some o) (a : (∀ xs, o ≠ .tup xs) ∧ (∀ q u, o ≠ .frz q u) ∧ ∀ ts, o ≠ .tbl ts) (a' : (∀ xs, o' ≠ .tup xs) ∧ (∀ q u, o' ≠ .frz q u) ∧ ∀ ts, o' ≠ .tbl ts) : Vw H (upd H p o') := by
  have core : ∀ b (u : Option HO), (u ≠ some o) → (u ≠ some o') → (H b = u ↔ upd H p o' b = u) := by
    intro b u h1 h2
    by_cases eb : b = p
    · subst eb
      rw [upd_same, hp]
      exact ⟨fun e => (h1 e.symm).elim, fun e => (h2 e.symm).elim⟩
    · rw [upd_ne eb]
  refine ⟨fun b => core b _ (fun e => by cases e) (fun e => by cases e), fun b xs => core b _ (fun e => a.1 xs ?_) (fun e => a'.1 xs ?_), fun b q u => core b _ (fun e => a.2.1 q u ?_) (fun e => a'.2.1 q u ?_), fun b ts => core b _ (fun e => a.2.2 ts ?_) (fun e => a'.2.2 ts ?_)⟩ <;> exact (Option.some.inj e).symm
theorem Vw.un {fs ex : List Addr} {H2 H3 : Hp} {h' : Heap} (v : Vw H H1) (u : Un fs ex H1 H2 h h') (v' : Vw H2 H3) : Un fs ex H H3 h h' :=
  ⟨fun b o e n => u.keep b o e ((v.n b).mp n), fun b o e n => u.slot b o e ((v.n b).mp n), fun b o e n q => (v'.n b).mp (u.free b o e ((v.n b).mp n) q), u.there,
    fun b xs e => (v'.t b xs).mp (u.tups b xs ((v.t b xs).mp e)), fun b o xs e => (v'.f b o xs).mp (u.frzs b o xs ((v.f b o xs).mp e)), fun b ts e => by
      obtain ⟨more, q⟩ := u.tbls b ts ((v.c b ts).mp e)
      exact ⟨more, (v'.c b _).mp q⟩⟩
theorem vw_refl : Vw H H := ⟨fun _ => Iff.rfl, fun _ _ => Iff.rfl, fun _ _ _ => Iff.rfl, fun _ _ => Iff.rfl⟩
theorem vw_close : Vw (upd H p (reelL x y z)) (upd H p (rl n p)) := by
  have e : upd H p (rl n p) = upd (upd H p (reelL x y z)) p (rl n p) := upd_upd.symm
  rw [e]
  exact Vw.of upd_same ⟨fun _ q => (by cases q), fun _ _ q => (by cases q), fun _ q => (by cases q)⟩ ⟨fun _ q => (by cases q), fun _ _ q => (by cases q), fun _ q => (by cases q)⟩
theorem vw_open (hp : H p = some (rl n p)) : Vw H (upd H p (reelL x y z)) :=
  Vw.of hp ⟨fun _ q => (by cases q), fun _ _ q => (by cases q), fun _ q => (by cases q)⟩ ⟨fun _ q => (by cases q), fun _ _ q => (by cases q), fun _ q => (by cases q)⟩
/-- what a def that hands a reel back, as three ints, is worth to those who see the reel alone -/
def QR (Q : VK) : VK := fun v H' => ∃ (H1 : Hp) (p : Addr) (x y z : Int) (n : Nat), RB n x y z ∧ H' = upd H1 p (reelL x y z) ∧ Q v (upd H1 p (rl n p))
theorem ce_reel {outer : List Env} {H' : Hp} {s s' : Shared} {Q : VK} {u : Value} (v : Vw H H') (c : CE outer P w H' s (QR Q) u s') : CE outer P w H s Q u s' := by
  obtain ⟨x, H2, os, bare, un, ok, r, H3, p, a, b, c, n, bd, rfl, q⟩ := c
  exact ⟨x, _, os, bare, v.un un vw_close, reel_close ok bd, r, q⟩
theorem Dok.made (F : Dok P w K mg base CX0 k f fd ps sp) (hs : ∀ vs H Q E, spX vs H Q E → sp vs H (QR Q) E) : Dok P w K mg base CX0 k f fd ps spX := by
  refine ⟨fun vs H Q E e => F.len _ _ _ _ (hs _ _ _ _ e), ?_⟩
  intro A outer s H args us vs Q E hr e0 hb r e
  refine codeAny_mono (F.run A outer s H args us vs _ E hr e0 hb r (hs _ _ _ _ e)) ?_
  intro r s' hq
  cases r with
  | error e => exact hq
  | ok fl =>
    cases fl with
    | ret u => exact ce_reel vw_refl hq
    | next => exact hq
    | brk => exact hq
    | cont => exact hq
theorem Dok.reel (F : Dok P w K mg base CX0 k f fd ps sp) (len : ∀ vs H Q E, spX vs H Q E → vs.length = ps.length)
    (hs : ∀ vs H Q E, spX vs H Q E → ∃ p n, H p = some (rl n p) ∧ ∀ x y z, RB n x y z → sp vs (upd H p (reelL x y z)) (QR Q) E) : Dok P w K mg base CX0 k f fd ps spX := by
  refine ⟨len, ?_⟩
  intro A outer s H args us vs Q E hr e0 hb r e
  obtain ⟨p, n, hp, hs⟩ := hs _ _ _ _ e
  obtain ⟨x, y, z, bd, ok⟩ := reel_open e0.hok hp
  have v : Vw H (upd H p (reelL x y z)) := vw_open hp
  have e1 : Env0 P w K mg base A outer s (upd H p (reelL x y z)) :=
    ⟨e0.frames, e0.mod, fun b o e => ⟨(e0.bs b o e).1, (v.n b).mp (e0.bs b o e).2⟩, e0.bsz, e0.funs, fun b q => (v.n b).mp (e0.frf b q), ok, e0.bare⟩
  refine codeAny_mono (F.run A outer s _ args us vs _ E hr e1 hb r (hs x y z bd)) ?_
  intro r s' hq
  cases r with
  | error e => exact hq
  | ok fl =>
    cases fl with
    | ret u => exact ce_reel v hq
    | next => exact hq
    | brk => exact hq
    | cont => exact hq
end

/-! ## what stays: all that was tracked; all but the reel at p, which falls from n draws to m -/
theorem same_new {H : Hp} {p : Addr} {o : HO} (h : H p = none) : Same H (upd H p o) := fun b x e => by
  rw [upd_ne (ne_of_none e h)]
  exact e
structure Sr (p : Addr) (n m : Nat) (H H' : Hp) : Prop where
  a : H p = some (rl n p)
  b : H' p = some (rl m p)
  s : ∀ b o, b ≠ p → H b = some o → H' b = some o
theorem rl_ne_lst {n : Nat} {p : Addr} {xs : List V} : rl n p ≠ .lst xs := fun e => by cases e
theorem rl_ne_tup {n : Nat} {p : Addr} {xs : List V} : rl n p ≠ .tup xs := fun e => by cases e
theorem rl_ne_frz {n : Nat} {p : Addr} {o : Obj} {u : HO} : rl n p ≠ .frz o u := fun e => by cases e
section
variable {p q : Addr} {n m k : Nat} {H H' H1 H2 : Hp} {xs : List V} {o : HO}
theorem Sr.of (s : Same H H') (h : H p = some (rl n p)) : Sr p n n H H' := ⟨h, s _ _ h, fun b o _ e => s b o e⟩
theorem Sr.refl (h : H p = some (rl n p)) : Sr p n n H H := .of (Same.refl H) h
theorem Sr.trans (a : Sr p n m H H1) (b : Sr p m k H1 H2) : Sr p n k H H2 := ⟨a.a, b.b, fun c o d e => b.s c o d (a.s c o d e)⟩
theorem Sr.then (a : Sr p n m H H1) (b : Same H1 H2) : Sr p n m H H2 := ⟨a.a, b _ _ a.b, fun c o d e => b c o (a.s c o d e)⟩
theorem Sr.new (a : Sr p n m H H1) (h : H1 q = none) : Sr p n m H (upd H1 q o) := a.then (same_new h)
theorem Sr.free (a : Sr p n m H H1) (h : H1 q = none) : H q = none := by
  cases e : H q with
  | none => rfl
  | some o =>
    have d : q ≠ p := fun d => by
      rw [d, a.b] at h
      cases h
    rw [a.s q o d e] at h
    cases h
/-- an object that was not there is changed -/
theorem Sr.mut (a : Sr p n m H H1) (h : H q = none) : Sr p n m H (upd H1 q o) := by
  have d : p ≠ q := ne_of_none a.a h
  refine ⟨a.a, by rw [upd_ne d]; exact a.b, fun b u e1 e2 => ?_⟩
  rw [upd_ne (ne_of_none e2 h)]
  exact a.s b u e1 e2
theorem Sr.lst (a : Sr p n m H H1) (h : H q = some (.lst xs)) : H1 q = some (.lst xs) := a.s _ _ (ne_of h a.a rl_ne_lst.symm) h
theorem Sr.tup (a : Sr p n m H H1) (h : H q = some (.tup xs)) : H1 q = some (.tup xs) := a.s _ _ (ne_of h a.a rl_ne_tup.symm) h
theorem Sr.seq {K : PySem.W.Frag} (a : Sr p n m H H1) (h : SqL K H q xs) : SqL K H1 q xs := by
  rcases h with (h | ⟨o, h⟩) | h
  · exact .inl (.inl (a.lst h))
  · exact .inl (.inr ⟨o, a.s _ _ (ne_of h a.a rl_ne_frz.symm) h⟩)
  · exact .inr h
theorem same_mut {H0 : Hp} (a : Same H0 H1) (h : H0 q = none) : Same H0 (upd H1 q o) := fun b u e => by
  rw [upd_ne (ne_of_none e h)]
  exact a b u e
end
theorem same_old {H H1 H2 : Hp} {p : Addr} {n m : Nat} (s : Same H H1) (r : Sr p n m H1 H2) (h : H p = none) : Same H H2 := fun b o e =>
  r.s b o (ne_of_none e h) (s b o e)

/-! ## data, all of it tracked -/
mutual
inductive Dt (H : Hp) : V → PyData → Prop
  | non : Dt H .non .none
  | bl (b : Bool) : Dt H (.bl b) (.bool b)
  | int (i : Int) : Dt H (.int i) (.int i)
  | str (x : Str) : Dt H (.str x) (.str x)
  | lst {a : Addr} {xs : List V} {ds : List PyData} : H a = some (.lst xs) → DtAll H xs ds → Dt H (.ref a) (.list ds)
  | tup {a : Addr} {xs : List V} {ds : List PyData} : H a = some (.tup xs) → DtAll H xs ds → Dt H (.ref a) (.tuple ds)
inductive DtAll (H : Hp) : List V → List PyData → Prop
  | nil : DtAll H [] []
  | cons {v : V} {vs : List V} {d : PyData} {ds : List PyData} : Dt H v d → DtAll H vs ds → DtAll H (v :: vs) (d :: ds)
end
section
variable {H H' : Hp}
mutual
theorem Dt.keep (k1 : ∀ b xs, H b = some (.lst xs) → H' b = some (.lst xs)) (k2 : ∀ b xs, H b = some (.tup xs) → H' b = some (.tup xs)) : ∀ {d : PyData} {v : V}, Dt H v d → Dt H' v d
  | .none, _, h => by cases h; exact .non
  | .bool _, _, h => by cases h; exact .bl _
  | .int _, _, h => by cases h; exact .int _
  | .str _, _, h => by cases h; exact .str _
  | .list ds, _, h => by
    cases h with
    | lst e r => exact .lst (k1 _ _ e) (DtAll.keep k1 k2 r)
  | .tuple ds, _, h => by
    cases h with
    | tup e r => exact .tup (k2 _ _ e) (DtAll.keep k1 k2 r)
  | .dict _, _, h => by cases h
theorem DtAll.keep (k1 : ∀ b xs, H b = some (.lst xs) → H' b = some (.lst xs)) (k2 : ∀ b xs, H b = some (.tup xs) → H' b = some (.tup xs)) : ∀ {ds : List PyData} {vs : List V}, DtAll H vs ds → DtAll H' vs ds
  | [], _, h => by cases h; exact .nil
  | d :: ds, _, h => by
    cases h with
    | cons a r => exact .cons (Dt.keep k1 k2 a) (DtAll.keep k1 k2 r)
end
theorem Dt.same {v : V} {d : PyData} (h : Dt H v d) (s : Same H H') : Dt H' v d := h.keep (fun b xs => s b _) fun b xs => s b _
theorem DtAll.same {vs : List V} {ds : List PyData} (h : DtAll H vs ds) (s : Same H H') : DtAll H' vs ds := h.keep (fun b xs => s b _) fun b xs => s b _
theorem Dt.sr {v : V} {d : PyData} {p : Addr} {n m : Nat} (h : Dt H v d) (s : Sr p n m H H') : Dt H' v d := h.keep (fun b xs => s.lst) fun b xs => s.tup
theorem DtAll.sr {vs : List V} {ds : List PyData} {p : Addr} {n m : Nat} (h : DtAll H vs ds) (s : Sr p n m H H') : DtAll H' vs ds := h.keep (fun b xs => s.lst) fun b xs => s.tup
theorem DtAll.len : ∀ {vs : List V} {ds : List PyData}, DtAll H vs ds → vs.length = ds.length
  | _, [], h => by cases h; rfl
  | _, d :: ds, h => by
    cases h with
    | cons a r => simp [DtAll.len r]
theorem DtAll.get : ∀ {vs : List V} {ds : List PyData} {i : Nat} {d : PyData}, DtAll H vs ds → ds[i]? = some d → ∃ v, vs[i]? = some v ∧ Dt H v d
  | _, [], _, _, h, e => by simp at e
  | _, d :: ds, 0, d', h, e => by
    cases h with
    | cons a r =>
      simp at e
      subst e
      exact ⟨_, rfl, a⟩
  | _, d :: ds, i + 1, d', h, e => by
    cases h with
    | cons a r =>
      obtain ⟨v, e1, h1⟩ := DtAll.get (i := i) r (by simpa using e)
      exact ⟨v, by simpa using e1, h1⟩
theorem DtAll.append : ∀ {vs ws : List V} {ds es : List PyData}, DtAll H vs ds → DtAll H ws es → DtAll H (vs ++ ws) (ds ++ es)
  | _, _, [], _, h, g => by cases h; exact g
  | _, _, d :: ds, _, h, g => by
    cases h with
    | cons a r => exact .cons a (DtAll.append r g)
theorem DtAll.take : ∀ {vs : List V} {ds : List PyData} (n : Nat), DtAll H vs ds → DtAll H (vs.take n) (ds.take n)
  | _, _, 0, _ => by simp only [List.take_zero]; exact .nil
  | _, [], _ + 1, h => by cases h; exact .nil
  | _, d :: ds, n + 1, h => by
    cases h with
    | cons a r => exact .cons a (DtAll.take n r)
theorem DtAll.drop : ∀ {vs : List V} {ds : List PyData} (n : Nat), DtAll H vs ds → DtAll H (vs.drop n) (ds.drop n)
  | _, _, 0, h => h
  | _, [], _ + 1, h => by cases h; exact .nil
  | _, d :: ds, n + 1, h => by
    cases h with
    | cons a r => exact DtAll.drop n r
theorem DtAll.one {v : V} {d : PyData} (h : Dt H v d) : DtAll H [v] [d] := .cons h .nil
theorem DtAll.reverse : ∀ {vs : List V} {ds : List PyData}, DtAll H vs ds → DtAll H vs.reverse ds.reverse
  | _, [], h => by cases h; exact .nil
  | _, d :: ds, h => by
    cases h with
    | cons a r =>
      rw [List.reverse_cons, List.reverse_cons]
      exact (DtAll.reverse r).append (.one a)
mutual
theorem Dt.dp {K : PySem.W.Frag} : ∀ {d : PyData} {v : V}, Dt H v d → Dp K H v d
  | .none, _, h => by cases h; exact .non
  | .bool _, _, h => by cases h; exact .bl _
  | .int _, _, h => by cases h; exact .int _
  | .str _, _, h => by cases h; exact .str _
  | .list ds, _, h => by
    cases h with
    | lst e r => exact .lst (SqL.of e) (DtAll.dp r)
  | .tuple ds, _, h => by
    cases h with
    | tup e r => exact .tup (SqT.of e) (DtAll.dp r)
  | .dict _, _, h => by cases h
theorem DtAll.dp {K : PySem.W.Frag} : ∀ {ds : List PyData} {vs : List V}, DtAll H vs ds → DpAll K H vs ds
  | [], _, h => by cases h; exact .nil
  | d :: ds, _, h => by
    cases h with
    | cons a r => exact .cons (Dt.dp a) (DtAll.dp r)
end
end
end Xi

namespace Xi
open PySem PySem.Spec PyProof.Rows L2
/-! ## a def of the text by its name -/
structure Own (K : PySem.W.Frag) (mg : Str → Option Value) (x : Str) (st : Stmt) (ps : List Str) (f : Addr) (fd : FuncData) : Prop where
  F : Fun K x x st f fd
  g : mg x = some (.ref f)
  b : Binds K fd ps []
/-- a def that keeps its promise, by its name -/
def Cal (P : Program) (w : World) (K : PySem.W.Frag) (mg : Str → Option Value) (base : Heap) (CX : CXT) (k : Nat) (x : Str) (st : Stmt) (ps : List Str) (sp : Sp) : Prop :=
  ∃ f fd, Own K mg x st ps f fd ∧ Dok P w K mg base CX k f fd ps sp
section
variable {P : Program} {w : World} {K : PySem.W.Frag} {mg : Str → Option Value} {base : Heap} {CX : CXT} {k j : Nat} {f : Addr} {fd : FuncData} {ps ks N : List Str} {sp sp' : Sp} {x : Str} {st : Stmt}
theorem Cal.mono (c : Cal P w K mg base CX j x st ps sp) (h : j ≤ k) : Cal P w K mg base CX k x st ps sp := by
  obtain ⟨f, fd, o, d⟩ := c
  exact ⟨f, fd, o, d.mono h⟩
theorem Cal.imp (c : Cal P w K mg base CX k x st ps sp) (h : ∀ vs H Q E, sp' vs H Q E → sp vs H Q E) : Cal P w K mg base CX k x st ps sp' := by
  obtain ⟨f, fd, o, d⟩ := c
  exact ⟨f, fd, o, d.imp h⟩
/-- a def from which no exception goes out -/
theorem Dok.calm (F : Fun K x x st f fd) (S : FnScope N ps (defScope st)) (len : ∀ vs H Q E, sp vs H Q E → vs.length = ps.length)
    (hb : ∀ (cdv : Value) (A : Around) (outer : List Env) (s : Shared) (H : Hp) (vs : List V) (Q : VK) (E : XK), Rm k (A.deeper (envOfC x (defScope st) s.heap.objs.size f cdv)) → sp vs H Q E →
      ∃ t, PSs (cxOf CX0 P w K mg base N x (defScope st) f cdv A outer s H E).nox (defBody st) t ∧ t { nx := fun _ H' => Q .non H', rt := Q } (start N vs) H) : Dok P w K mg base CX0 (k + 1) f fd ps sp := by
  refine Dok.body F S len fun cdv A outer s H vs Q E hr h => ?_
  obtain ⟨t, a, b⟩ := hb cdv A outer s H vs Q E hr h
  exact ⟨t, a.nox, b⟩
theorem kbOf {g : List Value → List Value → List Value} {gV : List V → List V → List V} (F : Fun K x x st f fd)
    (h : ∀ (kV doc pm : Value) (an : Option Addr) (cdv ct : Value) (us ws : List Value), (g us ws).length = ps.length →
      bindArgs (PySem.W.fnOf x x (defArgs st) (defBody st) (defScope st) .none kV doc pm an cdv ct) ⟨us, ks.zip ws⟩ = pure (ps.zip (g us ws)))
    (rel : ∀ {vs : List V} {us : List Value} {zs : List V} {ws : List Value}, Vals vs us → Vals zs ws → Vals (gV vs zs) (g us ws)) : KBinds K fd ps ks g gV := by
  obtain ⟨oc, od, kV, doc, pm, an, cdv, ct, osl, rfl, lk, hcd⟩ := F.ex
  exact ⟨fun s us ws _ hl => .of_eq (h kV doc pm an cdv ct us ws hl), rel⟩
end
section
variable {X : Cx} {CX : CXT} {k : Nat} {ps : List Str} {sp : Sp} {E : XK} {x : Str} {st : Stmt} {p pos : Pos} {e : Expr} {es : List Expr} {t tk : TA} {kws : List Keyword} {ks : List Str}
  {g : List Value → List Value → List Value} {gV : List V → List V → List V}
theorem c_call (c : Cal X.prog X.w X.K X.mg X.base CX k x st ps sp) (hr : Rm k X.A) (hx : Passes CX X E) (ha : PA X (e :: es) t) (hg : Gl X x := by rfl)
    (hdb : (x == ("__debug__" : Str)) = false := by decide) (he : starEach (e :: es) X.env = (false, eval e X.env) :: starEach es X.env := by rfl) (hpl : (backTo pos (starEach es X.env)).any (·.1) = false := by rfl) :
    PE X (.Call (.Name x p) (e :: es) [] pos) (tCall sp [] E t) := by
  obtain ⟨f, fd, o, d⟩ := c
  exact d_call d hr hg o.g o.F.kp o.b .nil hx ha hdb he hpl
theorem c_call0 (c : Cal X.prog X.w X.K X.mg X.base CX k x st ps sp) (hr : Rm k X.A) (hx : Passes CX X E) (hg : Gl X x := by rfl) (hdb : (x == ("__debug__" : Str)) = false := by decide) :
    PE X (.Call (.Name x p) [] [] pos) (tCall sp [] E tNil) := by
  obtain ⟨f, fd, o, d⟩ := c
  exact d_call0 d hr hg o.g o.F.kp o.b .nil hx hdb
theorem c_callK (c : Cal X.prog X.w X.K X.mg X.base CX k x st ps sp) (hr : Rm k X.A) (hx : Passes CX X E) (ha : PA X (e :: es) t) (hkw : PK X kws tk)
    (h : ∀ (kV doc pm : Value) (an : Option Addr) (cdv ct : Value) (us ws : List Value), (g us ws).length = ps.length →
      bindArgs (PySem.W.fnOf x x (defArgs st) (defBody st) (defScope st) .none kV doc pm an cdv ct) ⟨us, ks.zip ws⟩ = pure (ps.zip (g us ws)))
    (rel : ∀ {vs : List V} {us : List Value} {zs : List V} {ws : List Value}, Vals vs us → Vals zs ws → Vals (gV vs zs) (g us ws)) (hg : Gl X x := by rfl)
    (hall : (backToKw pos (keywordEach kws X.env)).all (·.1.isSome) = true := by rfl) (hks : (backToKw pos (keywordEach kws X.env)).filterMap (·.1) = ks := by rfl)
    (hdb : (x == ("__debug__" : Str)) = false := by decide) (he : starEach (e :: es) X.env = (false, eval e X.env) :: starEach es X.env := by rfl)
    (hpl : ((backTo pos (starEach (e :: es) X.env)).any (·.1) || (backToKw pos (keywordEach kws X.env)).any (·.1.isNone)) = false := by rfl) :
    PE X (.Call (.Name x p) (e :: es) kws pos) (tCallK sp gV E t tk) := by
  obtain ⟨f, fd, o, d⟩ := c
  exact d_callK d hr hg o.g o.F.kp (kbOf o.F h rel) hx ha hkw hall hks hdb he hpl
theorem c_callN (c : Cal X.prog X.w X.K X.mg X.base CX k x st ps sp) (hr : Rm k X.A) (hx : Passes CX X E) (hkw : PK X kws tk)
    (h : ∀ (kV doc pm : Value) (an : Option Addr) (cdv ct : Value) (us ws : List Value), (g us ws).length = ps.length →
      bindArgs (PySem.W.fnOf x x (defArgs st) (defBody st) (defScope st) .none kV doc pm an cdv ct) ⟨us, ks.zip ws⟩ = pure (ps.zip (g us ws)))
    (rel : ∀ {vs : List V} {us : List Value} {zs : List V} {ws : List Value}, Vals vs us → Vals zs ws → Vals (gV vs zs) (g us ws)) (hg : Gl X x := by rfl)
    (hall : (backToKw pos (keywordEach kws X.env)).all (·.1.isSome) = true := by rfl) (hks : (backToKw pos (keywordEach kws X.env)).filterMap (·.1) = ks := by rfl)
    (hdb : (x == ("__debug__" : Str)) = false := by decide)
    (hpl : ((backTo pos (starEach [] X.env)).any (·.1) || (backToKw pos (keywordEach kws X.env)).any (·.1.isNone)) = false := by rfl) :
    PE X (.Call (.Name x p) [] kws pos) (tCallK sp gV E tNil tk) := by
  obtain ⟨f, fd, o, d⟩ := c
  exact d_callN d hr hg o.g o.F.kp (kbOf o.F h rel) hx hkw hall hks hdb hpl
/-- a whole number of the module's own -/
theorem c_const {i : Int} (h : ∃ t, X.mg x = some (.int i t)) (hg : Gl X x := by rfl) (hd : (x == ("__debug__" : Str)) = false := by decide) : PE X (.Name x p) (tC (.int i)) := by
  obtain ⟨t, h⟩ := h
  exact pe_glob (hd := hd) hg h ⟨_, rfl⟩
/-! ## a power of a great number -/
theorem op_powW : OpR X (binaryOp .Pow) (rI (fun i j => 0 ≤ j ∧ (Builtin.Int.intBits i : Int) * j ≤ 2 ^ 27) fun i j => .int (i ^ j.toNat)) :=
  opI fun _ _ _ _ _ _ _ hc q => pow_int hc.1 hc.2 q
end
theorem tyes {σ : L2.St} {H : Hp} {Q : Bool → Hp → Prop} (h : Q true H) : tYes σ H Q := h
section
variable {K : PySem.W.Frag} {a b : Addr} {xs ys : List V}
open RZ in
theorem walk_zipT {n : Nat} (hn : n = min xs.length ys.length) : Walk (ItzT K a b) n (fun H => SqT K H a xs ∧ SqT K H b ys) (YPair (fun i => xs[i]?) (fun i => ys[i]?)) := by
  subst hn
  constructor
  · intro i H hi q
    have h1 : i < xs.length := by omega
    have h2 : i < ys.length := by omega
    exact ⟨xs, ys, xs[i], ys[i], q.1, q.2, by simp [h1], by simp [h2]⟩
  · intro H q
    exact ⟨xs, ys, q.1, q.2, by omega⟩
  · intro i H v H' hi q y
    obtain ⟨T, x, z, h1, h2, h3, h4, h5⟩ := y
    exact ⟨T, x, z, h1, h2, h3, h4 xs q.1, h5 ys q.2⟩
end
end Xi
namespace Xi
open PySem PySem.Spec PyProof.Rows L2
/-! ## within a comprehension: the written part told outright -/
def rLenX (K : PySem.W.Frag) : List V → Hp → VK → Prop := fun vs H Q => ∃ p ys, vs = [.ref p] ∧ (SqL K H p ys ∨ SqT K H p ys) ∧ Q (.int ys.length) H
section
variable {X : Cx} {K : PySem.W.Frag}
theorem kc_len (e : X.K = K) : CallR X (.builtin "len") (rLenX K) := by
  subst e
  exact call_len_seq
theorem kc_isi (e : X.K = K) : CallR X (.builtin "isinstance") (rIsi K) := by
  subst e
  exact call_isi
theorem kc_isiT (e : X.K = K) : CallR X (.builtin "isinstance") (rIsiT K) := by
  subst e
  exact call_isiT
theorem kc_all (e : X.K = K) (hc : X.calm = true) : CallR X (.builtin "all") (rAll K) := by
  subst e
  exact cr_all hc
theorem k_ixL (e : X.K = K) : IxR X (rIxL K) := by
  subst e
  exact ix_list
theorem k_ixT (e : X.K = K) : IxR X (rIxT K) := by
  subst e
  exact ix_tup
theorem k_eqD (e : X.K = K) (hu : X.A.units + 64 < cLine) : OpR X (compareOp .Eq) (rEqD K) := by
  subst e
  exact op_eqD hu
theorem k_neD (e : X.K = K) (hu : X.A.units + 64 < cLine) : OpR X (compareOp .NotEq) (rNeD K) := by
  subst e
  exact op_neD hu
theorem k_inSeq (e : X.K = K) : OpR X (compareOp .In) (rIn K false) := by
  subst e
  exact op_in_seq
theorem k_niSeq (e : X.K = K) : OpR X (compareOp .NotIn) (rIn K true) := by
  subst e
  exact op_notIn_seq
theorem k_slL (e : X.K = K) : SlR X (rSlL K) := by
  subst e
  exact sl_list
end
end Xi
namespace Xi
open PySem PySem.Spec PyProof.Rows L2
/-! ## parts of a list -/
theorem cut_to {xs : List V} (k : Nat) : cutV xs none (some (k : Int)) = xs.take k := by
  unfold cutV
  rw [HT.sIx_nat, HT.sIx_none, List.drop_zero, Nat.sub_zero]
  rcases Nat.le_total k xs.length with h | h
  · rw [Nat.min_eq_left h]
  · rw [Nat.min_eq_right h, List.take_of_length_le h, List.take_of_length_le (Nat.le_refl _)]
theorem cut_from {xs : List V} (k : Nat) : cutV xs (some (k : Int)) none = xs.drop k := by
  unfold cutV
  rw [HT.sIx_nat, HT.sIx_none]
  rcases Nat.le_total k xs.length with h | h
  · rw [Nat.min_eq_left h]
    exact List.take_of_length_le (by rw [List.length_drop]; exact Nat.le_refl _)
  · rw [Nat.min_eq_right h, List.drop_of_length_le (Nat.le_refl _), List.drop_of_length_le h]
    exact List.take_nil
end Xi
namespace Xi
open PySem PySem.Spec PyProof.Rows L2
/-! ## data that may be compared -/
def shp : Nat → PyData → Prop
  | _, .none => True
  | _, .bool _ => True
  | _, .int _ => True
  | _, .str x => PyData.strOk x = true
  | 0, _ => False
  | n + 1, .list ds => ∀ d ∈ ds, shp n d
  | n + 1, .tuple ds => ∀ d ∈ ds, shp n d
  | _ + 1, .dict _ => False
theorem lay_all : ∀ {ds : List PyData}, (∀ d ∈ ds, d.canLay0 = true) → PyData.canLayAll0 ds = true
  | [], _ => rfl
  | d :: ds, h => by
    show (d.canLay0 && PyData.canLayAll0 ds) = true
    rw [h d List.mem_cons_self, lay_all fun x hx => h x (List.mem_cons_of_mem _ hx)]
    rfl
theorem deep_all {n : Nat} : ∀ {ds : List PyData}, (∀ d ∈ ds, d.depth ≤ n) → PyData.depthAll ds ≤ n
  | [], _ => Nat.zero_le _
  | d :: ds, h => by
    have h1 := h d List.mem_cons_self
    have h2 := deep_all (ds := ds) fun x hx => h x (List.mem_cons_of_mem _ hx)
    show max d.depth (PyData.depthAll ds) ≤ n
    omega
theorem shp_ok : ∀ {n : Nat} {d : PyData}, shp n d → d.canLay0 = true ∧ d.depth ≤ n + 1
  | _, .none, _ => ⟨rfl, by show 0 ≤ _; omega⟩
  | _, .bool _, _ => ⟨rfl, by show 0 ≤ _; omega⟩
  | _, .int _, _ => ⟨rfl, by show 0 ≤ _; omega⟩
  | 0, .str x, h => ⟨h, by show 0 ≤ _; omega⟩
  | _ + 1, .str x, h => ⟨h, by show 0 ≤ _; omega⟩
  | n + 1, .list ds, h => by
    have hh : ∀ d ∈ ds, shp n d := h
    refine ⟨lay_all fun d hd => (shp_ok (hh d hd)).1, ?_⟩
    have := deep_all (n := n + 1) fun d hd => (shp_ok (hh d hd)).2
    show PyData.depthAll ds + 1 ≤ _
    omega
  | n + 1, .tuple ds, h => by
    have hh : ∀ d ∈ ds, shp n d := h
    refine ⟨lay_all fun d hd => (shp_ok (hh d hd)).1, ?_⟩
    have := deep_all (n := n + 1) fun d hd => (shp_ok (hh d hd)).2
    show PyData.depthAll ds + 1 ≤ _
    omega
  | 0, .list _, h => h.elim
  | 0, .tuple _, h => h.elim
  | 0, .dict _, h => h.elim
  | _ + 1, .dict _, h => h.elim
theorem shaped_of {n : Nat} {d : PyData} (h : shp n d) (hn : n ≤ 60 := by decide) : SeqAt.shaped d = true := by
  have a := shp_ok h
  unfold SeqAt.shaped
  rw [a.1, decide_eq_true (show d.depth ≤ 64 by omega)]
  rfl
theorem shp_list {n : Nat} {ds : List PyData} (h : ∀ d ∈ ds, shp n d) : shp (n + 1) (.list ds) := h
theorem shp_tup {n : Nat} {ds : List PyData} (h : ∀ d ∈ ds, shp n d) : shp (n + 1) (.tuple ds) := h
section
variable {K : PySem.W.Frag} {x y : V} {H : Hp} {d : PyData} {n : Nat} {Q : VK}
theorem eqD (h1 : Dt H x d) (h2 : Dt H y d) (s : shp n d) (q : Q (.bl true) H) (hn : n ≤ 60 := by decide) : rEqD K x y H Q := by
  refine ⟨d, d, h1.dp, h2.dp, shaped_of s hn, shaped_of s hn, ?_⟩
  rw [SeqAt.eqv_refl d (shp_ok s).1]
  exact q
theorem neD (h1 : Dt H x d) (h2 : Dt H y d) (s : shp n d) (q : Q (.bl false) H) (hn : n ≤ 60 := by decide) : rNeD K x y H Q := by
  refine ⟨d, d, h1.dp, h2.dp, shaped_of s hn, shaped_of s hn, ?_⟩
  rw [SeqAt.eqv_refl d (shp_ok s).1]
  exact q
theorem dt_strs : ∀ (ws : List Str), DtAll H (ws.map V.str) (ws.map PyData.str)
  | [] => .nil
  | w :: ws => .cons (.str w) (dt_strs ws)
theorem dt_ints : ∀ (ns : List Int), DtAll H (ns.map V.int) (ns.map PyData.int)
  | [] => .nil
  | w :: ws => .cons (.int w) (dt_ints ws)
end
end Xi
namespace Xi
open PySem PySem.Spec PyProof.Rows L2
/-- data of at most n levels, no list too long -/
def dep : Nat → PyData → Prop
  | _, .none => True
  | _, .bool _ => True
  | _, .int _ => True
  | _, .str _ => True
  | 0, _ => False
  | n + 1, .list ds => ds.length ≤ 100000 ∧ ∀ d ∈ ds, dep n d
  | n + 1, .tuple ds => ds.length ≤ 100000 ∧ ∀ d ∈ ds, dep n d
  | _ + 1, .dict _ => False
theorem long_ok {n : Nat} (h : n ≤ 100000) : n < sizeLine := Nat.lt_of_le_of_lt h (by decide)
end Xi
namespace Xi
open PySem PySem.Spec PyProof.Rows L2
/-- what stands behind a statement, proved once -/
theorem with_nx {t : TS} {D : Ends} {σ : L2.St} {H : Hp} (W : L2.St → Hp → Prop) (h1 : ∀ σ H, W σ H → D.nx σ H) (h2 : (∀ σ H, W σ H → D.nx σ H) → t D σ H) : t D σ H := h2 h1
theorem rg_ints (n : Nat) : rgV 0 (n : Int) = ((List.range n).map (fun i : Nat => (i : Int))).map V.int := by
  unfold rgV
  rw [List.map_map, Int.sub_zero, Int.toNat_natCast]
  refine List.map_congr_left fun i _ => ?_
  show V.int (0 + (i : Int)) = V.int (i : Int)
  rw [Int.zero_add]
end Xi
namespace Xi
open PySem PySem.Spec PyProof.Rows L2
theorem ext_tup (l : Addr) (xs : Array Value) (n : Nat) (b : Addr) (ys : Array Value) (m : Nat) (dd : Option Addr) (sl : Array (Option Value)) (h0 : ¬(!xs.isEmpty && Builtin.List.listTooLong (xs.size + ys.size)) = true) (h1 : xs.size ≤ sizeLine) (h2 : xs.size + ys.size ≤ sizeLine + 1) :
    Meets (Builtin.«list.extend» ⟨[.ref l, .ref b], []⟩) (fun _ R s => s.heap.get? l = some { cls := .type "list", data := .seq xs n } ∧ s.heap.get? b = some { cls := .type "tuple", dict := dd, data := .seq ys m, slots := sl } ∧ R (.ok (.ret Value.none)) { s with heap := s.heap.update l (Obj.mapSeq fun x => x ++ ys), toks := s.toks }) :=
  .of_wp fun prog w A R s h => by
    obtain ⟨hp, g, d, tk, os⟩ := s
    obtain ⟨hl, hb, h⟩ := h
    have e1 := AutoSeq1.idx_int
    have e2 := AutoSeq1.sub_tuple_tuple
    have e3 := AutoSeq1.sub_list_list
    have e4 := AutoSeq1.sub_tuple_list
    have e5 := AutoSeq1.sub_list_tuple
    have hz' : (xs ++ ys).size ≤ sizeLine + 1 := by
      rw [Array.size_append]
      exact h2
    wp_walk using (wpAny_updateSeq hl rfl (hz := h1) (_hz' := hz')), AutoSeq1.wpAny_loadPart' hl, AutoSeq1.wpAny_loadPart' hb
    exact ⟨_, rfl, h⟩
section
variable {X : Cx}
def rExtendT (K : PySem.W.Frag) : V → List V → Hp → VK → Prop := fun x vs H Q => ∃ l b xs zs, x = .ref l ∧ vs = [.ref b] ∧ H l = some (.lst xs) ∧ SqT K H b zs ∧ xs.length + zs.length ≤ sizeLine ∧ Q .non (upd H l (.lst (xs ++ zs)))
theorem mt_extendT : MtM X "list.extend" (rExtendT X.K) := by
  intro pins s σ H x vs v us Q I rx rv h
  obtain ⟨l, b, xs, zs, rfl, rfl, hH, hB, hz, q⟩ := h
  cases rx
  obtain ⟨u, rfl, ru⟩ := rv.one
  cases ru
  obtain ⟨z, its, n, r, hl, e⟩ := I.lstM hH
  obtain ⟨ws, r2, ⟨o, h1, h2, m, h3⟩, hz2⟩ := I.tuple hB
  obtain ⟨oc, od, dt, sl⟩ := o
  simp only at h2 h3
  subst h2 h3
  have hl2 := r2.length
  have hsz : its.toArray.size + ws.toArray.size ≤ sizeLine := by
    rw [List.size_toArray, List.size_toArray]
    omega
  have short : ¬ (!its.toArray.isEmpty && Builtin.List.listTooLong (its.toArray.size + ws.toArray.size)) = true := by
    rw [notLongL hsz, Bool.and_false]
    exact Bool.false_ne_true
  refine call_meets F.slot_list_extend ⟨_, e, rfl⟩ F.entry_list_extend (F.args_list_extend_2 _ _) (ext_tup l its.toArray n b ws.toArray m od sl short (by rw [List.size_toArray]; omega) (by omega)) ⟨e, h1, ?_⟩
  refine ⟨.non, _, I.lset (its' := its ++ ws) hH e (by simp) (r.append r2) ?_, rfl, q⟩
  rw [List.length_append]
  omega
end
end Xi

namespace Xi
open PySem PySem.Spec PyProof.Rows L2
/-! ## a datum written out -/
def rRepr (K : PySem.W.Frag) : List V → Hp → VK → Prop := fun xs H Q => ∃ (a : Addr) (d : PyData), xs = [.ref a] ∧ Dp K H (.ref a) d ∧ d.showable = true ∧ SeqAt.shaped d = true ∧ d.shown.length ≤ sizeLine ∧ Q (.str d.shown) H
section
variable {X : Cx} {K : PySem.W.Frag} {k : Nat}
theorem kc_repr (e : X.K = K) (hr : Rm k X.A) : CallR X (.builtin "repr") (rRepr K) := by
  subst e
  intro pins s σ H xs us Q I r h
  obtain ⟨a, d, rfl, hd, h1, h2, h3, q⟩ := h
  obtain ⟨u, rfl, ru⟩ : ∃ u, us = [u] ∧ RelV (.ref a) u := by
    cases r with
    | cons x y =>
      cases y
      exact ⟨_, rfl, x⟩
  cases (show u = Value.ref a from ru)
  obtain ⟨as, rd⟩ := Dp.reads I d _ _ hd rfl
  have nd := PyData.hasDict_of_canLay d (SeqAt.canLay_of_shaped h2)
  have dp := SeqAt.depth_of_shaped h2
  have un := hr.r.un
  refine repr_of_reads' rd h1 (fun z => by rw [nd] at z; cases z) hr.g (by omega) (fun b o e => e) (fun h' u tk keep => ?_) h3
  exact ⟨.str d.shown, H, I.kept (t' := tk) keep, ⟨u, rfl⟩, q⟩
/-! ## a set of whole numbers -/
def rSetI (K : PySem.W.Frag) : List V → Hp → VK → Prop := fun xs H Q => ∃ (l : Addr) (ns : List Int), xs = [.ref l] ∧ SqL K H l (ns.map V.int) ∧ ns.length ≤ 4000 ∧ ∀ p S n, H p = none → (∀ z, S z = decide (z ∈ ns)) → Q (.ref p) (upd H p (.set S n))
theorem kc_setI (e : X.K = K) (hc : X.calm = true) : CallR X (.type "set") (rSetI K) := by
  subst e
  intro pins s σ H xs us Q I r h
  obtain ⟨l, ns, rfl, hl, hz, q⟩ := h
  obtain ⟨u, rfl, ru⟩ : ∃ u, us = [u] ∧ RelV (.ref l) u := by
    cases r with
    | cons x y =>
      cases y
      exact ⟨_, rfl, x⟩
  cases (show u = Value.ref l from ru)
  obtain ⟨its, r, pl, _⟩ := I.list hl
  have hlen : its.toArray.size = ns.length := by rw [List.size_toArray, ← r.length, List.length_map]
  refine call_set_list (I.ok.hd hc) pl.isList (by simpa using RZ.intsAre_vals r) (by rw [hlen]; unfold scanBound; omega) fun h' tk hS hk => ?_
  have hf : H s.heap.objs.size = none := I.hok.fresh (Nat.le_refl _)
  refine ⟨.ref s.heap.objs.size, _, I.laid (t' := tk) (fun b o e => hk b o (Heap.lt_size e) e) (Nat.le_refl _) (show ObjOk X.prog X.w (upd H s.heap.objs.size (.set _ _)) h' s.heap.objs.size (.set _ _) from hS), rfl, q _ _ _ hf fun z => ?_⟩
  rw [firstMet_any, hlen]
  have e1 : (List.range ns.length).map (fun i => ns.getD i 0) = ns := by
    refine List.ext_getElem (by simp) fun i h1 h2 => ?_
    simp [List.getD_eq_getElem?_getD, List.getElem?_eq_getElem h2]
  rw [e1]
  by_cases hm : z ∈ ns
  · rw [decide_eq_true hm]
    exact List.any_eq_true.mpr ⟨z, hm, by simp⟩
  · rw [decide_eq_false hm]
    exact List.any_eq_false.mpr fun y hy => by
      intro e
      have : y = z := by simpa using e
      exact hm (this ▸ hy)
theorem kc_min (e : X.K = K) (hc : X.calm = true) : CallR X (.builtin "min") (rMin K) := by
  subst e
  exact cr_min hc
theorem kc_max (e : X.K = K) (hc : X.calm = true) : CallR X (.builtin "max") (rMax K) := by
  subst e
  exact cr_max hc
def rInI : R2 := fun x y H Q => ∃ (z : Int) (a : Addr) (S : Int → Bool) (n : Nat), x = .int z ∧ y = .ref a ∧ H a = some (.set S n) ∧ Q (.bl (S z)) H
theorem op_inI : OpR X (compareOp .In) rInI := by
  intro pins s σ H x y v u Q I rx ry h
  obtain ⟨z, a, S, n, rfl, rfl, ha, q⟩ := h
  obtain ⟨t, rfl⟩ := rx
  cases (show u = Value.ref a from ry)
  have hS : s.heap.SetOf (intKind X.prog X.w) a S n := I.hok a _ ha
  exact wpAny_inSet_of (knd := intKind X.prog X.w) (k := z) (by simp [intKind, Value.isInt]) rfl hS ⟨.bl (S z), H, I.tok _, rfl, q⟩
end
end Xi
namespace Xi
open PySem PySem.Spec PyProof.Rows L2
/-! ## how long a written datum is at most -/
mutual
def wt : PyData → Nat
  | .none => 4
  | .bool _ => 5
  | .int _ => 40
  | .str _ => 0
  | .list ds => wtAll ds + 2
  | .tuple ds => wtAll ds + 4
  | .dict _ => 0
def wtAll : List PyData → Nat
  | [] => 0
  | d :: ds => wt d + 2 + wtAll ds
end
/-- data of truths and whole numbers of at most 31 figures -/
def prt : Nat → PyData → Prop
  | _, .none => True
  | _, .bool _ => True
  | _, .int i => i.natAbs < 10 ^ 31
  | _, .str _ => False
  | 0, _ => False
  | n + 1, .list ds => ∀ d ∈ ds, prt n d
  | n + 1, .tuple ds => ∀ d ∈ ds, prt n d
  | _ + 1, .dict _ => False
theorem prt_shp : ∀ {n : Nat} {d : PyData}, prt n d → shp n d
  | _, .none, _ => (by unfold shp; trivial)
  | _, .bool _, _ => (by unfold shp; trivial)
  | _, .int _, _ => (by unfold shp; trivial)
  | 0, .str _, h => h.elim
  | _ + 1, .str _, h => h.elim
  | n + 1, .list ds, h => fun d hd => prt_shp ((show ∀ d ∈ ds, prt n d from h) d hd)
  | n + 1, .tuple ds, h => fun d hd => prt_shp ((show ∀ d ∈ ds, prt n d from h) d hd)
  | 0, .list _, h => h.elim
  | 0, .tuple _, h => h.elim
  | 0, .dict _, h => h.elim
  | _ + 1, .dict _, h => h.elim
theorem strLen (x y : Str) : (x ++ y).length = x.length + y.length := Array.size_append ..
theorem textFrom_le : ∀ (ts : List Str) (k : Nat) (acc : Str), (textFrom k acc ts).length ≤ acc.length + (ts.map fun t => t.length + 2).sum
  | [], _, acc => by
    show acc.length ≤ acc.length + 0
    omega
  | t :: r, k, acc => by
    have ih := textFrom_le r (k + 1) (acc ++ ((if k > 0 then ", " else "" : String) : Str) ++ t)
    have e : ((if k > 0 then ", " else "" : String) : Str).length ≤ 2 := by
      split
      · exact Nat.le_of_eq (by decide +kernel)
      · exact Nat.le_trans (Nat.le_of_eq (by decide +kernel : (("" : String) : Str).length = 0)) (by decide)
    rw [strLen, strLen] at ih
    show (textFrom (k + 1) (acc ++ ((if k > 0 then ", " else "" : String) : Str) ++ t) r).length ≤ acc.length + ((t.length + 2) + (r.map fun t => t.length + 2).sum)
    omega
theorem join_le : ∀ ts : List Str, (Str.join ", " ts).length ≤ (ts.map fun t => t.length + 2).sum
  | [] => Nat.le_of_eq (by decide +kernel)
  | [x] => by
    show x.length ≤ (x.length + 2) + 0
    omega
  | x :: y :: r => by
    have ih := join_le (y :: r)
    have e2 : ((", " : String) : Str).length = 2 := by decide +kernel
    show (x ++ ((", " : String) : Str) ++ Str.join ", " (y :: r)).length ≤ (x.length + 2) + ((y :: r).map fun t => t.length + 2).sum
    rw [strLen, strLen]
    omega
mutual
theorem shown_le : ∀ {n : Nat} {d : PyData}, prt n d → d.showable = true ∧ d.shown.length ≤ wt d
  | _, .none, _ => ⟨rfl, Nat.le_of_eq (by decide +kernel)⟩
  | _, .bool b, _ => ⟨rfl, by cases b <;> decide +kernel⟩
  | n, .int i, h => by
    have hi : i.natAbs < 10 ^ 31 := by cases n <;> exact h
    have h2 : (10 : Nat) ^ 31 < 2 ^ 110 := by decide
    have l := int_text_length_le10 (a := i) (k := 31) (by decide) hi
    refine ⟨?_, ?_⟩
    · show decide (i.natAbs.log2 < 1920) = true
      exact decide_eq_true (Nat.lt_trans (PySem.Flt.log2_lt_of (k := 110) (by decide) (Nat.lt_trans hi h2)) (by decide))
    · have e : ((toString i : String) : Str).length ≤ 32 := by
        show (Str.ofString (toString i)).length ≤ 32
        rw [PySem.ofString_length]
        exact l
      show ((toString i : String) : Str).length ≤ 40
      omega
  | 0, .str _, h => h.elim
  | _ + 1, .str _, h => h.elim
  | n + 1, .list ds, h => by
    obtain ⟨a, b⟩ := shownAll_le (n := n) (ds := ds) h
    refine ⟨a, ?_⟩
    have t := textFrom_le (PyData.shownAll ds) 0 ("[" : Str)
    have e1 : ("[" : Str).length = 1 := by decide +kernel
    have e2 : ("]" : Str).length = 1 := by decide +kernel
    show (textFrom 0 ("[" : Str) (PyData.shownAll ds) ++ ("]" : Str)).length ≤ wtAll ds + 2
    rw [strLen]
    omega
  | n + 1, .tuple ds, h => by
    obtain ⟨a, b⟩ := shownAll_le (n := n) (ds := ds) h
    refine ⟨a, ?_⟩
    have t := join_le (PyData.shownAll ds)
    have e1 : ("(" : Str).length = 1 := by decide +kernel
    have e2 : ((if (PyData.shownAll ds).length == 1 then ",)" else ")" : String) : Str).length ≤ 2 := by
      split
      · exact Nat.le_of_eq (by decide +kernel)
      · exact Nat.le_trans (Nat.le_of_eq (by decide +kernel : ((")" : String) : Str).length = 1)) (by decide)
    show (("(" : Str) ++ Str.join ", " (PyData.shownAll ds) ++ ((if (PyData.shownAll ds).length == 1 then ",)" else ")" : String) : Str)).length ≤ wtAll ds + 4
    rw [strLen, strLen]
    omega
  | 0, .list _, h => h.elim
  | 0, .tuple _, h => h.elim
  | 0, .dict _, h => h.elim
  | _ + 1, .dict _, h => h.elim
theorem shownAll_le : ∀ {n : Nat} {ds : List PyData}, (∀ d ∈ ds, prt n d) → PyData.showableAll ds = true ∧ ((PyData.shownAll ds).map fun t => t.length + 2).sum ≤ wtAll ds
  | _, [], _ => ⟨rfl, Nat.le_refl _⟩
  | n, d :: ds, h => by
    obtain ⟨a, b⟩ := shown_le (h d List.mem_cons_self)
    obtain ⟨a2, b2⟩ := shownAll_le (ds := ds) fun x hx => h x (List.mem_cons_of_mem _ hx)
    refine ⟨?_, ?_⟩
    · show (d.showable && PyData.showableAll ds) = true
      rw [a, a2]
      rfl
    · show (d.shown.length + 2) + ((PyData.shownAll ds).map fun t => t.length + 2).sum ≤ wt d + 2 + wtAll ds
      omega
end
theorem wtAll_le {m : Nat} : ∀ {ds : List PyData}, (∀ d ∈ ds, wt d ≤ m) → wtAll ds ≤ ds.length * (m + 2)
  | [], _ => Nat.zero_le _
  | d :: ds, h => by
    have a := h d List.mem_cons_self
    have b := wtAll_le (ds := ds) fun x hx => h x (List.mem_cons_of_mem _ hx)
    show wt d + 2 + wtAll ds ≤ (ds.length + 1) * (m + 2)
    rw [Nat.add_mul, Nat.one_mul]
    omega
section
variable {K : PySem.W.Frag} {a : Addr} {H : Hp} {d : PyData} {n : Nat} {Q : VK}
theorem reprD (h : Dt H (.ref a) d) (s : prt n d) (l : wt d ≤ 10000000) (q : Q (.str d.shown) H) (hn : n ≤ 60 := by decide) : rRepr K [.ref a] H Q := by
  obtain ⟨x, y⟩ := shown_le s
  refine ⟨a, d, rfl, h.dp, x, shaped_of (prt_shp s) hn, ?_, q⟩
  have e : sizeLine = 16777216 := by rw [sizeLine_eq]
  rw [e]
  omega
theorem prt_list {ds : List PyData} (h : ∀ d ∈ ds, prt n d) : prt (n + 1) (.list ds) := h
theorem prt_tup {ds : List PyData} (h : ∀ d ∈ ds, prt n d) : prt (n + 1) (.tuple ds) := h
end
end Xi

namespace Xi
open PySem PySem.Spec PySem.Calls PyProof.Rows L2
/-! ## except (A, B, ..) as e -/
section
variable {M : Model} {A : Around} {E : Value → Shared → Prop} {s : Shared}
theorem forIn_skip {body : Value → PUnit → Sem (ForInStep PUnit)} : ∀ {l : List Value} {Q : PUnit → Shared → Prop}, (∀ c ∈ l, ∀ {Q : ForInStep PUnit → Shared → Prop}, Q (.yield ⟨⟩) s → wpAny M A (body c ⟨⟩) Q E s) → Q ⟨⟩ s → wpAny M A (forIn l ⟨⟩ body) Q E s
  | [], Q, _, q => by
    rw [List.forIn_nil]
    exact wpAny_pure q
  | c :: l, Q, h, q => by
    rw [List.forIn_cons]
    exact wpAny_bind (h c List.mem_cons_self (forIn_skip (fun d hd => h d (List.mem_cons_of_mem _ hd)) q))
theorem forIn_any {β : Type} {b0 b1 : β} {f : Value → Bool} {body : Value → β → Sem (ForInStep β)} : ∀ {l : List Value} {Q : β → Shared → Prop},
    (∀ c ∈ l, ∀ {Q : ForInStep β → Shared → Prop}, Q (if f c then .done b1 else .yield b0) s → wpAny M A (body c b0) Q E s) → Q (if l.any f then b1 else b0) s → wpAny M A (forIn l b0 body) Q E s
  | [], Q, _, q => by
    rw [List.forIn_nil]
    exact wpAny_pure q
  | c :: l, Q, h, q => by
    rw [List.forIn_cons]
    refine wpAny_bind (h c List.mem_cons_self ?_)
    rw [List.any_cons] at q
    cases e : f c with
    | true =>
      rw [e] at q
      exact wpAny_pure q
    | false =>
      rw [e] at q
      exact forIn_any (fun d hd => h d (List.mem_cons_of_mem _ hd)) q
end
theorem exmAny_each {K : PySem.W.Frag} {cls : Value} : ∀ {cs : List Value} {b : Bool}, PySem.W.exmAny K cls cs = some b → (∀ c ∈ cs, PySem.W.exmOne K cls c = some ((PySem.W.exmOne K cls c).getD false)) ∧ b = cs.any fun c => (PySem.W.exmOne K cls c).getD false
  | [], b, h => ⟨fun c hc => (by cases hc), (Option.some.inj h).symm⟩
  | c :: r, b, h => by
    obtain ⟨b1, d1, h1, h2, rfl⟩ := PySem.W.exmAny_cons h
    obtain ⟨i1, i2⟩ := exmAny_each h2
    refine ⟨fun d hd => ?_, ?_⟩
    · rcases List.mem_cons.mp hd with rfl | hd
      · rw [h1]
        rfl
      · exact i1 d hd
    · rw [List.any_cons, h1, ← i2]
      rfl
open PySem.W in
theorem exm_all {M : Model} {K : PySem.W.Frag} {cs : List Value} {cls : Value} {tp e : Addr} {b : Bool} {h : Heap} (X : K.In h) (LT : Looks M h (typeOf (.ref e)) cls) (hp : h.get? tp = some { cls := .type "tuple", data := .seq cs.toArray }) (hx : exmAny K cls cs = some b) :
    Looks M h (excMatches (.ref e) (.ref tp)) b := by
  intro A Q E s k₀ q
  obtain ⟨hh, g, d, tk, os⟩ := s
  have k : ∀ b o, h.get? b = some o → hh.get? b = some o := k₀
  have LT0 : Looks M h (isInstance (.ref tp) (.type "tuple")) true := ((Looks.ld hp).andThen .now).andThen (Looks.of_pure isSubtype_tuple_tuple)
  obtain ⟨each, eb⟩ := exmAny_each hx
  have LT := LT.keeps k
  have LT0 := LT0.keeps k
  have hp' := k _ _ hp
  unfold excMatches
  refine wpAny_bind (LT0.at ?_)
  dsimp only
  rw [if_pos rfl]
  first
    | refine wpAny_bind (wpAny_seqItems hp' rfl ?_)
    | refine wpAny_bind (wpAny_bind (wpAny_seqItems hp' rfl (wpAny_pure ?_)))
  dsimp only [Option.getD_some, Option.getD]
  refine wpAny_bind (wpAny_pure ?_)
  refine wpAny_bind (forIn_skip (fun c hc Q q => ?_) ?_)
  · obtain ⟨e1, S1⟩ := exm_cls (M := M) X (each c hc)
    have e1 := e1.keeps k
    refine wpAny_bind (e1.at ?_)
    simp only [Bool.not_true, Bool.false_eq_true, if_false]
    exact wpAny_pure q
  refine wpAny_bind (LT.at ?_)
  refine wpAny_bind (forIn_any (b1 := (some true, ())) (f := fun c => (exmOne K cls c).getD false) (fun c hc Q q => ?_) ?_)
  · obtain ⟨e1, S1⟩ := exm_cls (M := M) X (each c hc)
    have S1 := S1.keeps k
    refine wpAny_bind (S1.at ?_)
    cases e : (exmOne K cls c).getD false with
    | true =>
      rw [if_pos rfl]
      rw [e, if_pos rfl] at q
      exact wpAny_pure q
    | false =>
      rw [if_neg Bool.false_ne_true]
      rw [e, if_neg Bool.false_ne_true] at q
      exact wpAny_pure q
  rw [← eb]
  cases b with
  | true =>
    rw [if_pos rfl]
    exact wpAny_pure q
  | false =>
    rw [if_neg Bool.false_ne_true]
    exact wpAny_pure q
/-- the names in the brackets of an except clause -/
inductive NamesL (X : Cx) : List Expr → List Value → Prop
  | nil : NamesL X [] []
  | cons {x : Str} {c : Value} {p : Pos} {es : List Expr} {cs : List Value} (hc : Names X x c) (r : NamesL X es cs) : NamesL X (.Name x p :: es) (c :: cs)
theorem NamesL.mark {X : Cx} {a : Addr} {pn : List (Addr × Obj)} {es : List Expr} {cs : List Value} (h : NamesL X es cs) : NamesL (X.suite a pn) es cs := by
  induction h with
  | nil => exact .nil
  | cons y r ih => exact .cons y ih
/-- an exception of the class cls that was caught, at a -/
def CaO (cls : Value) (a : Addr) : HO := .ext fun h => ∃ (oe : Obj) (vs : Array Value), h.get? a = some oe ∧ oe.cls = cls ∧ oe.dict = none ∧ oe.data = .fields vs
theorem caO_ok {P : Program} {w : World} {H : Hp} {h : Heap} {a : Addr} {cls : Value} {oe : Obj} {vs : Array Value} (e : h.get? a = some oe) (z : Zc cls none oe) (d : oe.data = .fields vs) : ObjOk P w H h a (CaO cls a) :=
  ⟨⟨oe, vs, e, z.1, z.2, d⟩, ⟨oe, e⟩, fun _ _ ⟨u, v, q, r⟩ k => ⟨u, v, k u q, r⟩⟩
section
variable {X : Cx} {pins : List (Addr × Obj)} {σ : L2.St} {H : Hp} {s : Shared} {a : Addr} {o : HO}
theorem names_run {pos : Pos} {E : Value → Shared → Prop} (I : Inv X pins σ H s) : ∀ {es : List Expr} {cs : List Value} {Q : List Value → Shared → Prop}, NamesL X es cs → Q cs s → wpAny (model X.prog X.w) X.A (spliced (backTo pos (starEach es X.env))) Q E s
  | _, _, _, .nil, q => wpAny_items_nil q
  | _, _, _, .cons (c := c) ⟨g, d, y⟩ r, q => by
    refine wpAny_items_cons ?_
    rcases y with y | ⟨y, v, nn⟩
    · exact ld_glob I g y (names_run I r q) d
    · exact ld_blt I g y v (names_run I r q) nn d
/-- an object that was made since the entry may be looked after -/
theorem track (I : Inv X pins σ H s) (n : H a = none) (old : X.s_0.heap.get? a = none) (nl : a ≠ X.env.locals) (nc : ∀ x c, X.env.cells.lookup x = some c → c ≠ a) (np : ∀ p ∈ X.pn ++ pins, p.1 ≠ a)
    (new : ObjOk X.prog X.w (upd H a o) s.heap a o) : Inv X pins σ (upd H a o) s where
  ok := I.ok
  os := I.os
  bare := I.bare
  base := by
    refine ⟨I.base.keep, I.base.slot, fun b u e z w => ?_, I.base.there, fun b xs e => ?_, fun b u xs e => ?_, fun b ps e => ?_⟩
    · rw [upd_ne (fun q => by rw [q, old] at e; cases e)]
      exact I.base.free b u e z w
    · rw [upd_ne (ne_of_none (I.base.tups b xs e) n)]
      exact I.base.tups b xs e
    · rw [upd_ne (ne_of_none (I.base.frzs b u xs e) n)]
      exact I.base.frzs b u xs e
    · obtain ⟨m, z⟩ := I.base.tbls b ps e
      exact ⟨m, by rw [upd_ne (ne_of_none z n)]; exact z⟩
  loc := I.loc
  cell := I.cell
  free := by
    rw [upd_ne nl.symm]
    exact I.free
  freeC := fun x c e => by
    rw [upd_ne (nc x c e)]
    exact I.freeC x c e
  pin := fun p hp => by
    obtain ⟨x1, x2, x3⟩ := I.pin p hp
    exact ⟨x1, by rw [upd_ne (np p hp)]; exact x2, x3⟩
  hok := HOk.laidN I.hok (fun _ _ z => z) n new
  len := I.len
end
theorem flies {B : Heap} {l : List Env} {e : Addr} {Z : Obj → Prop} {h h' : Heap} (f : HandSPX.FlyingZ B l e Z h) (k : ∀ b o, h.get? b = some o → h'.get? b = some o) : HandSPX.FlyingZ B l e Z h' := by
  obtain ⟨f1, f2, f3, oe, ws, T, oT, ts, x1, x2, x3, x4, x5, x6, x7, x8⟩ := f
  exact ⟨fun b o q => k b o (f1 b o q), f2, f3.of_keeps fun b o q _ => ⟨o, k b o q, rfl⟩, oe, ws, T, oT, ts, k _ _ x1, x2, x3, x4, x5, x6, k _ _ x7, x8⟩
/-- what 'except (A, B, ..) as n' wishes of an exception; behind its suite the exception is looked after -/
def wIn (K : PySem.W.Frag) (cs : List Value) (i : Nat) (ts : Addr → Value → Option Addr → TS) (Wout : WX) (D : Ends) : WX := fun cls d σ H =>
  ∃ b, PySem.W.exmAny K cls cs = some b ∧
    (b = true → d = none ∧ ∀ a, H a = none → ts a cls d { nx := fun σ' H' => D.nx (σ'.set i none) (upd H' a (CaO cls a)), rt := fun _ _ => False, bk := fun _ _ => False, ct := fun _ _ => False } (σ.set i (some (.ref a))) H) ∧
    (b = false → Wout cls d σ H)
section
variable {X : Cx} {n : Str} {i kk : Nat} {es : List Expr} {cs : List Value} {body suite : List Stmt} {b₀ : Stmt} {tpos pos pos' : Pos} {tb : WX → TS} {ts : Addr → Value → Option Addr → TS} {Wout : WX}
theorem ps_try_in (e1 : X.stack = X.env :: X.outer) (e2 : X.env.frame = some X.env.locals) (e3 : X.ex = []) (nd : X.N.Nodup) (ni : X.N[i]? = some n) (nk : X.env.kindOf n = some .local) (hc : NamesL X es cs) (lc : cs.length ≤ sizeLine) (tk : Takes X Wout)
    (B1 : ∀ (W : WX) (pn : List (Addr × Obj)) (xe : Value → Shared → Prop), Takes (X.tr pn xe) W → PSs (X.tr pn xe) body (tb W))
    (B2 : ∀ (a : Addr) (oe : Obj) (cls : Value) (d : Option Addr) (pn : List (Addr × Obj)), Zc cls d oe → (∃ vs, oe.data = .fields vs) → PSs (X.suite a ((a, oe) :: pn)) (b₀ :: suite) (ts a cls d)) :
    PS X (.Try body [.ExceptHandler (some (.Tuple es kk tpos)) (some n) (b₀ :: suite) pos'] [] [] pos) (fun D σ H => tb (wIn X.K cs i ts Wout D) D σ H) := by
  constructor
  intro pins s σ H D I0 want
  have ok := I0.ok
  have fr : X.A.frames = some (X.env :: X.outer) := by
    rw [ok.frames, e1]
  refine wpAny_Try_except (wpAny_mono ((B1 (wIn X.K cs i ts Wout D) (X.pn ++ pins) _ (fun u s' air => ?_)).run [] s σ H D (I0.toTry _) want) (fun f s1 done => ?_) (fun _ _ z => z))
  · obtain ⟨a, B, sI, pins', σ', H', cls, d, rfl, J', nb, up, sky, na, os, ag, b, x1, yes, no⟩ := air
    have J : Inv X pins σ' H' sI := J'.ofTry ok
    rw [show (X.tr (X.pn ++ pins) _).stack = X.env :: X.outer from e1] at sky
    refine Sky.land Zc.steady fr e2 sky fun h3 g3 u3 => ?_
    have J3 : Inv X pins σ' H' { s' with heap := h3 } := J.landed nb g3.1 (up.trans u3) os ag
    obtain ⟨oe, vs, T, oT, us, q1, q2, q3, q4, q5, q6, q7, q8, q9⟩ := id g3.2.2.2
    have apart : a ∉ frs (X.env :: X.outer) := fun hm => by
      obtain ⟨_, u, eu, hu⟩ := g3.2.2.1.mem hm
      rw [q1] at eu
      cases eu
      exact hu _ q3
    have aL : a ≠ X.env.locals := fun z => apart (List.mem_filterMap.mpr ⟨X.env, List.mem_cons_self, by rw [e2, z]⟩)
    have aF : a ∉ X.fs := fun hm => by
      obtain ⟨v, hv, q⟩ := List.mem_filterMap.mp hm
      exact apart (List.mem_filterMap.mpr ⟨v, List.mem_cons_of_mem _ hv, q⟩)
    -- what is in the brackets
    refine wpAny_handleBy_cons (codeAny_handlers_test ?_) (fun q => by cases q)
    refine wpAny_Tuple (names_run (X := X.suite a ((a, oe) :: (X.pn ++ pins))) (J3.suite q1 q3 na aL aF) (es := es) (cs := cs) ?_ ⟨lc, ?_⟩)
    · exact hc.mark
    have grow : ∀ b o, h3.get? b = some o → (h3.push { cls := .type "tuple", data := .seq cs.toArray }).get? b = some o := fun _ _ z => Heap.get?_push_of_some _ z
    have tup : (h3.push { cls := .type "tuple", data := .seq cs.toArray }).get? h3.objs.size = some { cls := .type "tuple", data := .seq cs.toArray } := Heap.get?_push_size h3 rfl
    have LT : PySem.W.Looks (model X.prog X.w) (h3.push { cls := .type "tuple", data := .seq cs.toArray }) (typeOf (.ref a)) cls := fun A Q E s k q => wpAny_typeOf_ref (k _ _ (grow _ _ q1)) (by rw [q2.1]; exact q)
    refine (exm_all (M := model X.prog X.w) (J3.kIn.keeps grow) LT tup x1).here ?_
    have f4 := flies g3 grow
    have u4 : sI.heap.UpToSlots (h3.push { cls := .type "tuple", data := .seq cs.toArray }) := (up.trans u3).trans (Heap.UpToSlots.of_keeps grow)
    generalize h3.push { cls := .type "tuple", data := .seq cs.toArray } = h4 at f4 u4
    cases b with
    | true =>
      obtain ⟨hd, yes⟩ := yes rfl
      subst hd
      have nb2 : ∀ b o, sI.heap.get? b = some o → b ∉ frs (X.env :: X.outer) → B.get? b = some o := by
        rw [← e1]
        exact nb
      have aB : B.get? a = none := g3.2.1
      have old : X.s_0.heap.get? a = none := by
        cases z : X.s_0.heap.get? a with
        | none => rfl
        | some o =>
          obtain ⟨u, hu⟩ := J.base.there a o z (by rw [e3]; exact fun q => nomatch q)
          have := nb2 a u hu apart
          rw [aB] at this
          cases this
      have np : ∀ p ∈ X.pn ++ pins, p.1 ≠ a := fun p hp z => by
        obtain ⟨y1, _, y3, y4, _⟩ := J.pin p hp
        have := nb2 p.1 _ y1 (fun hm => by
          obtain ⟨v, hv, q⟩ := List.mem_filterMap.mp hm
          rcases List.mem_cons.mp hv with rfl | hv
          · rw [e2] at q
            exact y3 (Option.some.inj q).symm
          · exact y4 (List.mem_filterMap.mpr ⟨v, hv, q⟩))
        rw [z, aB] at this
        cases this
      refine codeAny_handlers_suite_as (HandSPX.lands_againZ f4 fun h5 f5 u5 => ?_)
      have J5 : Inv X pins σ' H' { s' with heap := h5 } := J.landed nb f5.1 (u4.trans u5) os ag
      obtain ⟨oe5, vs5, _, _, _, p1, p2, p3, _⟩ := id f5.2.2.2
      refine store_ok (X := X.suite a ((a, oe5) :: (X.pn ++ pins))) (v := .ref a) (J5.suite p1 p3 na aL aF) nd ni (.inl nk) rfl (fun s6 J6 => ?_) (.inr nk)
      refine wpAny_mono ((B2 a oe5 cls none (X.pn ++ pins) p2 ⟨_, p3⟩).run [] s6 _ H' _ J6 (yes a na)) (fun f s7 fin => ?_) (fun _ _ z => z.elim)
      cases f with
      | next =>
        obtain ⟨σ7, H7, J7, k7⟩ := fin
        refine gone_ok (X := X.suite a ((a, oe5) :: (X.pn ++ pins))) J7 nd ni nk fun s8 J8 => ?_
        obtain ⟨y1, y2, _⟩ := J8.pin (a, oe5) (List.mem_append_left _ List.mem_cons_self)
        refine ⟨_, _, track (J8.unsuite ok) y2 old aL (fun x c hx z => ?_) np (caO_ok y1 p2 p3), k7⟩
        obtain ⟨v, o, ho, hv⟩ := J8.cell x c hx
        rw [z, y1] at ho
        cases ho
        rw [p3] at hv
        cases hv
      | brk => exact fin.elim fun _ h => h.elim fun _ h => h.2.elim
      | cont => exact fin.elim fun _ h => h.elim fun _ h => h.2.elim
      | ret u => exact fin.elim fun _ h => h.elim fun _ h => h.elim fun _ h => h.2.2.elim
    | false =>
      show wpAny _ X.A (handleBy (.ref a) X.env []) _ _ _
      refine wpAny_handleBy_nil ?_
      obtain ⟨_, _, T4, _, _, w1, _, w3, w4, _⟩ := id f4.2.2.2
      unfold PySem.passOn
      refine wpAny_bind (wpAny_field w1 w3 w4 ?_)
      rw [if_neg (show ¬ ((Value.ref T4 == Value.none) = true) by simp)]
      have on : wpAny (model X.prog X.w) X.A (setFlight (.ref a) X.env.frame) (fun _ z => wpAny (model X.prog X.w) X.A (throw (.ref a) : Sem Flow) (SP X pins D) X.xe z) X.xe { s' with heap := h4 } := by
        rw [e2]
        refine HandSPX.setFlight_upZ f4 fun h6 held u6 => wpAny_throw (tk _ _ ⟨a, B, sI, pins, σ', H', cls, d, rfl, J, nb, u4.trans u6, ?_, na, os, ag, no rfl⟩)
        rw [e1]
        exact .inr (.inr held)
      first
        | exact wpAny_bind (wpAny_pure (wpAny_bind on))
        | exact wpAny_bind on
  · cases f with
    | next =>
      obtain ⟨σ1, H1, J1, k1⟩ := done
      exact wpAny_execs_nil ⟨σ1, H1, J1.ofTry ok, k1⟩
    | brk =>
      obtain ⟨σ1, H1, J1, k1⟩ := done
      exact ⟨σ1, H1, J1.ofTry ok, k1⟩
    | cont =>
      obtain ⟨σ1, H1, J1, k1⟩ := done
      exact ⟨σ1, H1, J1.ofTry ok, k1⟩
    | ret u =>
      obtain ⟨v1, σ1, H1, J1, r1, k1⟩ := done
      exact ⟨v1, σ1, H1, J1.ofTry ok, r1, k1⟩
end
/-! ## isinstance of a caught exception -/
def rIsC (K : PySem.W.Frag) : List V → Hp → VK → Prop := fun xs H Q => ∃ (a D : Addr) (c : V) (cv : Value) (b : Bool), xs = [.ref a, c] ∧ H a = some (CaO (.ref D) a) ∧ ExcC K D ∧ ClsV c cv ∧ PySem.W.kitOne K (.ref D) cv = some b ∧ Q (.bl b) H
def rIsCT (K : PySem.W.Frag) : List V → Hp → VK → Prop := fun xs H Q => ∃ (a D tp : Addr) (cs : List V) (us : List Value) (b : Bool), xs = [.ref a, .ref tp] ∧ H a = some (CaO (.ref D) a) ∧ ExcC K D ∧ H tp = some (.tup cs) ∧ Paired ClsV cs us ∧ PySem.W.kitAny K (.ref D) us = some b ∧ Q (.bl b) H
section
variable {X : Cx} {K : PySem.W.Frag}
theorem caO_at {pins : List (Addr × Obj)} {σ : L2.St} {H : Hp} {s : Shared} {a D : Addr} (I : Inv X pins σ H s) (e : H a = some (CaO (.ref D) a)) : ∃ oe, PySem.W.InstAt s.heap a oe D none := by
  obtain ⟨⟨oe, vs, h1, h2, h3, h4⟩, _⟩ := (show ObjOk X.prog X.w H s.heap a (CaO (.ref D) a) from I.hok a _ e)
  refine ⟨oe, ?_⟩
  obtain ⟨oc, od, oda, osl⟩ := oe
  dsimp only at h2 h3 h4
  subst h2 h3 h4
  exact ⟨h1, rfl, rfl, trivial⟩
theorem kc_isC (e : X.K = K) : CallR X (.builtin "isinstance") (rIsC K) := by
  subst e
  intro pins s σ H xs us Q I r h
  obtain ⟨a, D, c, cv, b, rfl, ha, C, k, e, q⟩ := h
  obtain ⟨u1, u2, rfl, r1, r2⟩ := vals2 r
  cases (show u1 = Value.ref a from r1)
  have e2 := k.eq r2
  subst e2
  obtain ⟨oe, J⟩ := caO_at I ha
  exact PySem.W.kia_one (PySem.W.handS_kitx_exc C.hg C.hk C.hs C.hd C.ha C.hn C.ht C.hm) I.kIn J e (fun z => nomatch z) fun tk => ⟨.bl b, H, I.tok tk, rfl, q⟩
theorem kc_isCT (e : X.K = K) : CallR X (.builtin "isinstance") (rIsCT K) := by
  subst e
  intro pins s σ H xs us Q I r h
  obtain ⟨a, D, tp, cs, ws, b, rfl, ha, C, hT, k, e, q⟩ := h
  obtain ⟨u1, u2, rfl, r1, r2⟩ := vals2 r
  cases (show u1 = Value.ref a from r1)
  cases (show u2 = Value.ref tp from r2)
  obtain ⟨oe, J⟩ := caO_at I ha
  obtain ⟨_, its, rv, o, h1, h2, n, h3⟩ := (show ObjOk X.prog X.w H s.heap tp (.tup cs) from I.hok tp _ hT)
  have e3 := ClsV.all k rv
  subst e3
  obtain ⟨oc, od, dt, sl⟩ := o
  dsimp only at h2 h3
  subst h2 h3
  exact PySem.W.kia_tup (PySem.W.handS_kitx_exc C.hg C.hk C.hs C.hd C.ha C.hn C.ht C.hm) I.kIn J h1 e (fun z => nomatch z) fun tk => ⟨.bl b, H, I.tok tk, rfl, q⟩
end
/-! ## calls of defs that raise -/
section
variable {X : Cx} {k : Nat} {ps : List Str} {sp : Sp} {W : WX} {x : Str} {st : Stmt} {p pos : Pos} {e : Expr} {es : List Expr} {t tk : TA} {kws : List Keyword} {ks : List Str}
  {g : List Value → List Value → List Value} {gV : List V → List V → List V}
/-- what a def lets out goes on as it is -/
theorem passT {E : XK} (tk : Takes X (fun cls d _ H => E cls d H)) : Passes (L2.CX X.prog X.w) X E := fun _ _ _ _ e s' I c => tk e s' (XE.of_call I (fun _ _ _ h => h) c)
theorem Dok.afterW {f : Addr} {fd : FuncData} (F : Dok X.prog X.w X.K X.mg X.base (L2.CX X.prog X.w) k f fd ps sp) (hr : Rm k X.A) (hx : Takes X W) {pins : List (Addr × Obj)} {σ : L2.St} {H : Hp} {s : Shared} {Q : VK} {args : Args} {us : List Value} {vs : List V}
    (I : Inv X pins σ H s) (r : Vals vs us) (hb : BindsTo s fd args (ps.zip us)) (h : sp vs H Q (fun cls d H' => W cls d σ H')) : codeAny (model X.prog X.w) X.A (.call (.ref f) args) (fun r s' => match r with | .ok (.ret u) => EP X pins σ Q u s' | .ok _ => False | .error e => X.xe e s') s := by
  refine codeAny_mono (F.run X.A X.stack s H args us vs Q _ hr I.env0 hb r h) fun o s' q => ?_
  cases o with
  | error e => exact hx e s' (XE.of_call I (fun _ _ _ h => h) q)
  | ok fl =>
    cases fl with
    | ret u => exact I.after q
    | next => exact q.elim
    | brk => exact q.elim
    | cont => exact q.elim
/-- f(k = v, ..) in a try -/
def tCallW (sp : Sp) (gV : List V → List V → List V) (W : WX) (tk : TA) : TE := fun σ H Q => tk σ H fun zs H2 => sp (gV [] zs) H2 Q (fun cls d H' => W cls d σ H')
theorem c_callW (c : Cal X.prog X.w X.K X.mg X.base (L2.CX X.prog X.w) k x st ps sp) (hr : Rm k X.A) (hx : Takes X W) (hkw : PK X kws tk)
    (h : ∀ (kV doc pm : Value) (an : Option Addr) (cdv ct : Value) (us ws : List Value), (g us ws).length = ps.length →
      bindArgs (PySem.W.fnOf x x (defArgs st) (defBody st) (defScope st) .none kV doc pm an cdv ct) ⟨us, ks.zip ws⟩ = pure (ps.zip (g us ws)))
    (rel : ∀ {vs : List V} {us : List Value} {zs : List V} {ws : List Value}, Vals vs us → Vals zs ws → Vals (gV vs zs) (g us ws)) (hg : Gl X x := by rfl)
    (hall : (backToKw pos (keywordEach kws X.env)).all (·.1.isSome) = true := by rfl) (hks : (backToKw pos (keywordEach kws X.env)).filterMap (·.1) = ks := by rfl)
    (hdb : (x == ("__debug__" : Str)) = false := by decide)
    (hpl : ((backTo pos (starEach [] X.env)).any (·.1) || (backToKw pos (keywordEach kws X.env)).any (·.1.isNone)) = false := by rfl) :
    PE X (.Call (.Name x p) [] kws pos) (tCallW sp gV W tk) := by
  obtain ⟨f, fd, o, d⟩ := c
  have hb : KBinds X.K fd ps ks g gV := kbOf o.F h rel
  refine ⟨fun pins s σ H Q I q => wpAny_Call_Name_kw (ld_glob I hg o.g (PySem.W.callWith_KW0 (h₀ := X.base) I.ok.mod.kin o.F.kp hall (thn (hkw.run pos pins s σ H _ I q) ?_) hpl) hdb)⟩
  rintro ws s2 ⟨zs, H2, I2, rz, q2⟩
  refine ⟨I2.kIn, ?_⟩
  rw [hks]
  have r2 := hb.rel (.nil : Vals [] []) rz
  refine ends (d.afterW hr hx I2 r2 (hb.to s2 [] ws I2.kIn ?_) q2)
  rw [← r2.length]
  exact d.len _ _ _ _ q2
/-- f(a, ..) in a try -/
def tCallP (sp : Sp) (W : WX) (t : TA) : TE := fun σ H Q => t σ H fun vs H2 => sp (vs ++ []) H2 Q (fun cls d H' => W cls d σ H')
theorem c_callP (c : Cal X.prog X.w X.K X.mg X.base (L2.CX X.prog X.w) k x st ps sp) (hr : Rm k X.A) (hx : Takes X W) (ha : PA X (e :: es) t) (hg : Gl X x := by rfl)
    (hdb : (x == ("__debug__" : Str)) = false := by decide) (he : starEach (e :: es) X.env = (false, eval e X.env) :: starEach es X.env := by rfl) (hpl : (backTo pos (starEach es X.env)).any (·.1) = false := by rfl) :
    PE X (.Call (.Name x p) (e :: es) [] pos) (tCallP sp W t) := by
  obtain ⟨f, fd, o, d⟩ := c
  refine ⟨fun pins s σ H Q I q => wpAny_Call_Name_kw (ld_glob I hg o.g (PySem.W.callWith_K (h₀ := X.base) I.ok.mod.kin o.F.kp (thn (ha.run pos pins s σ H _ I q) ?_) he hpl) hdb)⟩
  rintro us s1 ⟨vs, H1, I1, r, q1⟩
  refine ⟨I1.kIn, ?_⟩
  have r2 : Vals (vs ++ []) (us ++ []) := r.append .nil
  refine ends (d.afterW hr hx I1 r2 (o.b s1 us I1.kIn ?_) q1)
  rw [← r2.length]
  exact d.len _ _ _ _ q1
end
/-! ## facts of classes, put together -/
section
open PySem.W
variable {K : PySem.W.Frag} {t c : Value} {C : Addr} {b d : Bool} {r : List Value} {T : String}
theorem exmAny_mk (h1 : exmOne K t c = some b) (h2 : exmAny K t r = some d) : exmAny K t (c :: r) = some (b || d) := by
  unfold exmAny
  rw [h1, h2]
theorem kit_ref (h1 : hasDictIn K C = true) (h2 : typeIn K (.ref C) = some (.type "type")) (h3 : subIn K t (.ref C) = some b) (h4 : t = .ref C → b = true) : kitOne K t (.ref C) = some b := by
  unfold kitOne
  by_cases e : (t == .ref C) = true
  · rw [if_pos e, h4 (beq_iff_eq.mp e)]
  · rw [if_neg e]
    obtain ⟨cd, hc, _⟩ := any_some h1
    have e2 : ((clsIn K C).isSome && typeIn K (.ref C) == some (.type "type")) = true := by rw [hc, h2] <;> rfl
    show (if ((clsIn K C).isSome && typeIn K (.ref C) == some (.type "type")) = true then subIn K t (.ref C) else none) = some b
    rw [if_pos e2]
    exact h3
theorem kit_typ (m : kitMeta T = true) (h : subIn K (.ref C) (.type T) = some b) : kitOne K (.ref C) (.type T) = some b := by
  unfold kitOne
  rw [if_neg (fun e => by cases (beq_iff_eq.mp e))]
  show (if kitMeta T = true then subIn K (.ref C) (.type T) else none) = some b
  rw [if_pos m]
  exact h
theorem kitAny_mk (h1 : kitOne K t c = some false) (h2 : kitAny K t r = some false) : kitAny K t (c :: r) = some false := kitAny_cons h1 (fun _ => h2) (fun e => nomatch e)
end
end Xi

namespace Lw
open PySem PySem.Spec PyProof.Rows L2 Xi
def topS (i : Nat) : Stmt := PySem.Challenge.pw_pleatpunch_k08_one_strip_grown_in_place.main.body.getD i (.Pass ⟨0, 0, 0, 0⟩)
structure Txt (mg : Str → Option Value) : Prop where
  abs : mg "abs" = none
  int : mg "int" = none
  len : mg "len" = none
  list : mg "list" = none
  max : mg "max" = none
  min : mg "min" = none
  range : mg "range" = none
  str : mg "str" = none
  c_MOST_CELLS : ∃ t, mg "MOST_CELLS" = some (.int 200 t)
  c_MOST_PASSES : ∃ t, mg "MOST_PASSES" = some (.int 99 t)
abbrev s_law_pull : Stmt := topS 17
theorem sc_law_pull : FnScope ["reel", "count", "found", "stirred"] ["reel", "count"] (defScope s_law_pull) := ⟨rfl, rfl, rfl, by decide +kernel, rfl, by decide +kernel, by decide +kernel⟩

section
variable {P : Program} {w : World} {K : PySem.W.Frag} {mg : Str → Option Value} {base : Heap}
def sp_pull0 : Sp := fun vs H Q _ => ∃ (p : Addr) (x y z c : Int) (n : Nat), vs = [.ref p, .int c] ∧ H p = some (reelL x y z) ∧ RB (n + 1) x y z ∧ 0 < c ∧ c < 2 ^ 29 ∧
  ∀ x' z' r, RB n x' y z' → 0 ≤ r → r < c → Q (.int r) (upd H p (reelL x' y z'))
/-- a draw: 0 <= r < c -/
def sp_pull : Sp := fun vs H Q _ => ∃ (p : Addr) (c : Int) (n : Nat), vs = [.ref p, .int c] ∧ H p = some (rl n p) ∧ 1 ≤ n ∧ 0 < c ∧ c < 2 ^ 29 ∧
  ∀ r H', Sr p n (n - 1) H H' → 0 ≤ r → r < c → Q (.int r) H'
def st1 (y z : Int) : Int := ((y + 32452867 * (z + 1)) ^ Int.toNat 3).fmod (10 ^ 38 + 133)
def st2 (u z : Int) : Int := ((u + 15485867 * (z + 1)) ^ Int.toNat 3).fmod (10 ^ 37 + 43)
theorem fmod_lt {a c : Int} (hc : 0 < c) : 0 ≤ a.fmod c ∧ a.fmod c < c := by
  rw [Int.fmod_eq_emod_of_nonneg a (by omega)]
  exact ⟨Int.emod_nonneg a (by omega), Int.emod_lt_of_pos a hc⟩
theorem fdiv_bd {a c : Int} (ha : 0 ≤ a) (hc : 0 < c) : 0 ≤ a.fdiv c := by
  rw [Int.fdiv_eq_ediv_of_nonneg a (by omega)]
  exact Int.ediv_nonneg ha (by omega)
theorem bits_lt {i : Int} {m : Nat} (h : i.natAbs < 2 ^ m) (hm : 0 < m) : Builtin.Int.intBits i ≤ m := by
  unfold Builtin.Int.intBits
  split
  · omega
  · have := PySem.Flt.log2_lt_of hm h
    omega
theorem pow3 {i : Int} {m : Nat} (h : i.natAbs < 2 ^ m) (hm : 0 < m) (h2 : m ≤ 40000000) : (0 : Int) ≤ 3 ∧ (Builtin.Int.intBits i : Int) * 3 ≤ 2 ^ 27 := by
  have := bits_lt h hm
  refine ⟨by decide, ?_⟩
  have e : (2 : Int) ^ 27 = 134217728 := by decide
  rw [e]
  omega
theorem ok_pull0 {f : Addr} {fd : FuncData} (F : Fun K "_law_pull" "_law_pull" s_law_pull f fd) : Dok P w K mg base CX0 1 f fd ["reel", "count"] sp_pull0 := by
  refine Dok.calm F sc_law_pull (fun vs H Q E h => ?_) (fun cdv A outer s H vs Q E hr h => ?_)
  · obtain ⟨p, x, y, z, c, n, rfl, _⟩ := h
    rfl
  obtain ⟨p, x, y, z, c, n, rfl, hp, ⟨bx, by0, by1, bz, bn⟩, c0, c1, k⟩ := h
  refine ⟨_, (pss_cons (ps_if (pt_cmpR op_gt (pe_ix (k_ixL (K := K) rfl) (pv 0) pe_int (fun _ _ => rfl)) pe_int (nomark _)) (pss_cons (ps_set (i := 2) sc_law_pull.nd rfl (Or.inl rfl) (pe_op op_modN (pe_ix (k_ixL (K := K) rfl) (pv 0) pe_int (fun _ _ => rfl)) (pv 1)))
    (pss_cons (ps_asg (pe_op op_fdivN (pe_ix (k_ixL (K := K) rfl) (pv 0) pe_int (fun _ _ => rfl)) (pv 1)) (pg_sub (pv 0) pe_int set_list))
    (pss_one (ps_ret (pv 2))))) pss_nil)
    (pss_cons (ps_asg (pe_op op_add (pe_ix (k_ixL (K := K) rfl) (pv 0) pe_int (fun _ _ => rfl)) pe_int) (pg_sub (pv 0) pe_int set_list))
    (pss_cons (ps_set (i := 3) sc_law_pull.nd rfl (Or.inl rfl) (pe_op op_modN (pe_op op_powW (pe_op op_add (pe_ix (k_ixL (K := K) rfl) (pv 0) pe_int (fun _ _ => rfl)) (pe_op op_mul pe_int (pe_ix (k_ixL (K := K) rfl) (pv 0) pe_int (fun _ _ => rfl)))) pe_int) (pe_op op_add (pe_op op_pow pe_int pe_int) pe_int)))
    (pss_cons (ps_set (i := 3) sc_law_pull.nd rfl (Or.inl rfl) (pe_op op_modN (pe_op op_powW (pe_op op_add (pv 3) (pe_op op_mul pe_int (pe_ix (k_ixL (K := K) rfl) (pv 0) pe_int (fun _ _ => rfl)))) pe_int) (pe_op op_add (pe_op op_pow pe_int pe_int) pe_int)))
    (pss_one (ps_ret (pe_op op_modN (pe_op op_fdivN (pv 3) pe_int) (pv 1)))))))), ?_⟩
  have hS : ∀ {H : Hp} {x y z : Int}, H p = some (reelL x y z) → SqL K H p [.int x, .int y, .int z] := fun h => SqL.of h
  refine ⟨.ref p, rfl, p, _, 0, .int x, rfl, rfl, hS hp, rfl, x, 0, rfl, rfl, _, rfl, ite2 (fun h0 => ?_) (fun _ => ?_)⟩
  · -- found = reel[0] % count
    have cd : c ≠ 0 ∧ c.natAbs < 1073741824 := by
      have : (2 : Int) ^ 29 = 536870912 := by decide
      omega
    refine ⟨.ref p, rfl, p, _, 0, .int x, rfl, rfl, hS hp, rfl, .int c, rfl, x, c, rfl, rfl, cd.1, ?_⟩
    refine ⟨.ref p, rfl, p, _, 0, .int x, rfl, rfl, hS hp, rfl, .int c, rfl, x, c, rfl, rfl, cd, .ref p, rfl, p, _, 0, 0, rfl, rfl, hp, rfl, .int (x.fmod c), rfl, ?_⟩
    exact k _ _ _ ⟨fdiv_bd bx c0, by0, by1, bz, by omega⟩ (fmod_lt c0).1 (fmod_lt c0).2
  · refine ⟨.ref p, rfl, p, _, 2, .int z, rfl, rfl, hS hp, rfl, z, 1, rfl, rfl, .ref p, rfl, p, _, 2, 2, rfl, rfl, hp, rfl, ?_⟩
    have hp2 : upd H p (reelL x y (z + 1)) p = some (reelL x y (z + 1)) := upd_same
    have zb : 0 ≤ z + 1 ∧ z + 1 ≤ 1000000000 := by omega
    have e200 : (2 : Int) ^ 200 = 1606938044258990275541962092341162602522202993782792835301376 := by decide
    -- stirred = (reel[1] + 32452867 * reel[2]) ** 3 % (10 ** 38 + 133)
    refine ⟨.ref p, rfl, p, _, 1, .int y, rfl, rfl, hS hp2, rfl, .ref p, rfl, p, _, 2, .int (z + 1), rfl, rfl, hS hp2, rfl, 32452867, z + 1, rfl, rfl, .inl ⟨by decide, by decide⟩, y, 32452867 * (z + 1), rfl, rfl,
      y + 32452867 * (z + 1), 3, rfl, rfl, pow3 (m := 210) ?_ (by decide) (by decide), 10, 38, rfl, rfl, ⟨by decide, by decide, by decide⟩, 10 ^ 38, 133, rfl, rfl, _, 10 ^ 38 + 133, rfl, rfl, (show (10 : Int) ^ 38 + 133 ≠ 0 by decide), ?_⟩
    · have : (2 : Nat) ^ 210 = 1645504557321206042154969182557350504982735865633579863348609024 := by decide
      rw [this]
      omega
    obtain ⟨u, hu⟩ : ∃ u, u = st1 y z := ⟨_, rfl⟩
    have bu : 0 ≤ u ∧ u < 10 ^ 38 + 133 := by
      rw [hu]
      exact fmod_lt (by decide)
    have e38 : (10 : Int) ^ 38 = 100000000000000000000000000000000000000 := by decide
    refine ⟨.int u, by rw [hu]; rfl, .ref p, rfl, p, _, 2, .int (z + 1), rfl, rfl, hS hp2, rfl, 15485867, z + 1, rfl, rfl, .inl ⟨by decide, by decide⟩, u, 15485867 * (z + 1), rfl, rfl,
      u + 15485867 * (z + 1), 3, rfl, rfl, pow3 (m := 210) ?_ (by decide) (by decide), 10, 37, rfl, rfl, ⟨by decide, by decide, by decide⟩, 10 ^ 37, 43, rfl, rfl, _, 10 ^ 37 + 43, rfl, rfl, (show (10 : Int) ^ 37 + 43 ≠ 0 by decide), ?_⟩
    · have : (2 : Nat) ^ 210 = 1645504557321206042154969182557350504982735865633579863348609024 := by decide
      rw [this]
      omega
    refine ⟨.int (st2 u z), rfl, st2 u z, 131071, rfl, rfl, ⟨by decide, by decide⟩, .int c, rfl, (st2 u z).fdiv 131071, c, rfl, rfl, by omega, ?_⟩
    exact k _ _ _ ⟨bx, by0, by1, zb.1, by omega⟩ (fmod_lt c0).1 (fmod_lt c0).2
theorem ok_pull {f : Addr} {fd : FuncData} (o : Own K mg "_law_pull" s_law_pull ["reel", "count"] f fd) : Cal P w K mg base CX0 1 "_law_pull" s_law_pull ["reel", "count"] sp_pull := by
  refine ⟨f, fd, o, Dok.reel (ok_pull0 o.F) (fun vs H Q E h => ?_) (fun vs H Q E h => ?_)⟩
  · obtain ⟨p, c, n, rfl, _⟩ := h
    rfl
  obtain ⟨p, c, n, rfl, hp, n1, c0, c1, k⟩ := h
  obtain ⟨m, rfl⟩ : ∃ m, n = m + 1 := ⟨n - 1, by omega⟩
  refine ⟨p, m + 1, hp, fun x y z b => ⟨p, x, y, z, c, m, rfl, upd_same, b, c0, c1, fun x' z' r b' r0 r1 => ?_⟩⟩
  refine ⟨H, p, x', y, z', m, b', upd_upd, k r _ ⟨hp, upd_same, fun b o d e => ?_⟩ r0 r1⟩
  rw [upd_ne d]
  exact e
end
abbrev s_law_reel : Stmt := topS 16
theorem sc_law_reel : FnScope ["script", "k", "cell"] ["script", "k"] (defScope s_law_reel) := ⟨rfl, rfl, rfl, by decide +kernel, rfl, by decide +kernel, by decide +kernel⟩

abbrev s_law_size : Stmt := topS 18
theorem sc_law_size : FnScope ["reel", "most", "some"] ["reel", "most"] (defScope s_law_size) := ⟨rfl, rfl, rfl, by decide +kernel, rfl, by decide +kernel, by decide +kernel⟩

abbrev s_law_strip : Stmt := topS 19
theorem sc_law_strip : FnScope ["reel", "size", "holes", "passes", "found", "place", "holed"] ["reel", "size"] (defScope s_law_strip) := ⟨rfl, rfl, rfl, by decide +kernel, rfl, by decide +kernel, by decide +kernel⟩

/-- a cell's datum -/
def cellD (c : Bool × Int) : PyData := .tuple [.bool c.1, .int c.2]
def GoodCells (cs : List (Bool × Int)) : Prop := ∀ c ∈ cs, 0 ≤ c.2 ∧ c.2 ≤ 99
/-- cells lean on tuples alone -/
theorem cells_keep {H H' : Hp} : ∀ {cs : List (Bool × Int)} {ts : List V}, DtAll H ts (cs.map cellD) → (∀ b xs, H b = some (.tup xs) → H' b = some (.tup xs)) → DtAll H' ts (cs.map cellD)
  | [], _, h, _ => by cases h; exact .nil
  | c :: cs, _, h, k => by
    cases h with
    | cons a r =>
      cases a with
      | tup e q =>
        refine .cons (.tup (k _ _ e) ?_) (cells_keep r k)
        cases q with
        | cons a1 q =>
          cases q with
          | cons a2 q =>
            cases q
            cases a1
            cases a2
            exact .cons (.bl _) (.cons (.int _) .nil)
section
variable {P : Program} {w : World} {K : PySem.W.Frag} {mg : Str → Option Value} {base : Heap}
theorem at_mem {xs : List V} {r : Int} (h0 : 0 ≤ r) (h1 : r < (xs.length : Int)) : ∃ v, atI xs r = some v ∧ v ∈ xs := by
  obtain ⟨j, rfl⟩ := Int.eq_ofNat_of_zero_le h0
  have hj : j < xs.length := by omega
  exact ⟨xs[j], atI_nat (List.getElem?_eq_getElem hj), List.getElem_mem hj⟩
def sp_reel0 (K : PySem.W.Frag) : Sp := fun vs H Q _ => ∃ (a : Addr) (ns : List Int) (k : Int), vs = [.ref a, .int k] ∧ SqL K H a (ns.map V.int) ∧ 0 ≤ k ∧ k ≤ 1000 ∧
  ∀ p x y, H p = none → RB 1000000 x y 0 → Q (.ref p) (upd H p (reelL x y 0))
/-- a new reel, good for a million draws -/
def sp_reel (K : PySem.W.Frag) : Sp := fun vs H Q _ => ∃ (a : Addr) (ns : List Int) (k : Int), vs = [.ref a, .int k] ∧ SqL K H a (ns.map V.int) ∧ 0 ≤ k ∧ k ≤ 1000 ∧
  ∀ p H', H p = none → Same H H' → H' p = some (rl 1000000 p) → Q (.ref p) H'
theorem ok_reel {f : Addr} {fd : FuncData} (o : Own K mg "_law_reel" s_law_reel ["script", "k"] f fd) (T : Txt mg) : Cal P w K mg base CX0 1 "_law_reel" s_law_reel ["script", "k"] (sp_reel K) := by
  have z : Dok P w K mg base CX0 1 f fd ["script", "k"] (sp_reel0 K) := by
    refine Dok.calm o.F sc_law_reel (fun vs H Q E h => ?_) (fun cdv A outer s H vs Q E hr h => ?_)
    · obtain ⟨a, ns, k, rfl, _⟩ := h
      rfl
    obtain ⟨a, ns, k, rfl, hS, k0, k1, q⟩ := h
    refine ⟨_, (pss_cons (ps_set (i := 2) sc_law_reel.nd rfl (Or.inl rfl) (pe_ifExp (pt_cmpR op_lt (pv 1) (pe_callB (kc_len (K := K) rfl) (by rfl) T.len (by decide +kernel) (pa_cons (pv 0) pa_nil)) (nomark _)) (pe_ix (k_ixL (K := K) rfl) (pv 0) (pv 1) (fun _ _ => rfl)) pe_int))
    (pss_one (ps_ret (pe_lst (pa_cons (pe_callB (call_max2 rfl) (by rfl) T.max (by decide +kernel) (pa_cons pe_int (pa_cons (pe_op op_sub (pe_callB call_abs (by rfl) T.abs (by decide +kernel) (pa_cons (pv 2) pa_nil)) (pe_op op_pow pe_int pe_int)) pa_nil))) (pa_cons (pe_op op_add (pe_op op_add (pe_op op_mul (pe_op op_modN (pe_callB call_abs (by rfl) T.abs (by decide +kernel) (pa_cons (pv 2) pa_nil)) (pe_op op_add (pe_op op_pow pe_int pe_int) pe_int)) pe_int) (pv 1)) pe_int) (pa_cons pe_int pa_nil))))))), ?_⟩
    have rest : ∀ cell : Int, (tRet (tLst (tCons (tCB (fun xs H Q => ∃ i j, xs = [.int i, .int j] ∧ Q (.int (if j > i then j else i)) H) (tCons (tC (.int 0)) (tCons (tOp (rI0 fun i j => .int (i - j)) (tCB (fun xs H Q => ∃ i, xs = [.int i] ∧ Q (.int (if i < 0 then -i else i)) H) (tCons (tVar 2) tNil)) (tOp (rI CPow fun i j => .int (i ^ j.toNat)) (tC (.int 10)) (tC (.int 18)))) tNil)))
      (tCons (tOp (rI0 fun i j => .int (i + j)) (tOp (rI0 fun i j => .int (i + j)) (tOp (rI CMul fun i j => .int (i * j)) (tOp (rI (fun _ j => j ≠ 0) fun i j => .int (i.fmod j)) (tCB (fun xs H Q => ∃ i, xs = [.int i] ∧ Q (.int (if i < 0 then -i else i)) H) (tCons (tVar 2) tNil)) (tOp (rI0 fun i j => .int (i + j)) (tOp (rI CPow fun i j => .int (i ^ j.toNat)) (tC (.int 10)) (tC (.int 36))) (tC (.int 67)))) (tC (.int 128))) (tVar 1)) (tC (.int 3))) (tCons (tC (.int 0)) tNil)))))
        { nx := fun _ H' => Q .non H', rt := Q } [some (.ref a), some (.int k), some (.int cell)] H := by
      intro cell
      refine ⟨.int cell, rfl, cell, rfl, 10, 18, rfl, rfl, ⟨by decide, by decide, by decide⟩, _, _, rfl, rfl, _, _, rfl, ?_⟩
      refine ⟨.int cell, rfl, cell, rfl, 10, 36, rfl, rfl, ⟨by decide, by decide, by decide⟩, _, _, rfl, rfl, _, _, rfl, rfl, (show (10 : Int) ^ 36 + 67 ≠ 0 by decide), _, _, rfl, rfl, .inr ⟨by decide, by decide⟩, .int k, rfl, _, _, rfl, rfl, _, _, rfl, rfl, (by show 3 ≤ sizeLine; decide), fun p hp => ?_⟩
      refine q p _ _ hp ⟨?_, ?_⟩
      · show 0 ≤ if (if cell < 0 then -cell else cell) - 10 ^ 18 > 0 then (if cell < 0 then -cell else cell) - 10 ^ 18 else 0
        split <;> omega
      · have b := fmod_lt (a := (if cell < 0 then -cell else cell)) (c := 10 ^ 36 + 67) (by decide)
        show 0 ≤ (if cell < 0 then -cell else cell).fmod (10 ^ 36 + 67) * 128 + k + 3 ∧ (if cell < 0 then -cell else cell).fmod (10 ^ 36 + 67) * 128 + k + 3 < 2 ^ 200 ∧ (0 : Int) ≤ 0 ∧ (0 : Int) + ((1000000 : Nat) : Int) ≤ 1000000000
        have e36 : (10 : Int) ^ 36 = 1000000000000000000000000000000000000 := by decide
        have e200 : (2 : Int) ^ 200 = 1606938044258990275541962092341162602522202993782792835301376 := by decide
        omega
    refine ⟨.int k, rfl, .ref a, rfl, a, _, rfl, .inl hS, k, _, rfl, rfl, _, rfl, ite2 (fun c => ?_) (fun c => ?_)⟩
    · have hk : k < ((ns.map V.int).length : Int) := of_decide_eq_true c
      obtain ⟨v, e, m⟩ := at_mem k0 hk
      obtain ⟨cell, _, rfl⟩ := List.mem_map.mp m
      exact ⟨.ref a, rfl, .int k, rfl, a, _, k, .int cell, rfl, rfl, hS, e, rest cell⟩
    · exact rest 0
  refine ⟨f, fd, o, Dok.made z (fun vs H Q E h => ?_)⟩
  obtain ⟨a, ns, k, rfl, hS, k0, k1, q⟩ := h
  exact ⟨a, ns, k, rfl, hS, k0, k1, fun p x y hp b => ⟨H, p, x, y, 0, 1000000, b, rfl, q p _ hp (same_new hp) upd_same⟩⟩
/-- a size, at most 200 -/
def sp_size : Sp := fun vs H Q _ => ∃ (p : Addr) (m : Int) (n : Nat), vs = [.ref p, .int m] ∧ H p = some (rl n p) ∧ 4 ≤ n ∧ 1 ≤ m ∧
  ∀ r H', Sr p n (n - 4) H H' → 1 ≤ r → r ≤ m → r ≤ 200 → Q (.int r) H'
theorem ok_size {f : Addr} {fd : FuncData} (o : Own K mg "_law_size" s_law_size ["reel", "most"] f fd) (T : Txt mg) (C_law_pull : Cal P w K mg base CX0 1 "_law_pull" s_law_pull ["reel", "count"] sp_pull) :
    Cal P w K mg base CX0 2 "_law_size" s_law_size ["reel", "most"] sp_size := by
  refine ⟨f, fd, o, ?_⟩
  refine Dok.calm o.F sc_law_size (fun vs H Q E h => ?_) (fun cdv A outer s H vs Q E hr h => ?_)
  · obtain ⟨p, m, n, rfl, _⟩ := h
    rfl
  obtain ⟨p, m, n, rfl, hp, n4, m1, k⟩ := h
  refine ⟨_, (pss_cons (ps_set (i := 2) sc_law_size.nd rfl (Or.inl rfl) (pe_lst (pa_cons (pe_op op_add pe_int (c_call C_law_pull (hr.mono (by omega)) pass0 (pa_cons (pv 0) (pa_cons pe_int pa_nil)))) (pa_cons (pe_op op_add pe_int (c_call C_law_pull (hr.mono (by omega)) pass0 (pa_cons (pv 0) (pa_cons pe_int pa_nil)))) (pa_cons (pe_op op_add pe_int (c_call C_law_pull (hr.mono (by omega)) pass0 (pa_cons (pv 0) (pa_cons pe_int pa_nil)))) (pa_cons pe_int pa_nil))))))
    (pss_one (ps_ret (pe_callB (call_min2 rfl) (by rfl) T.min (by decide +kernel) (pa_cons (pv 1) (pa_cons (pe_ix (k_ixL (K := K) rfl) (pv 2) (c_call C_law_pull (hr.mono (by omega)) pass0 (pa_cons (pv 0) (pa_cons pe_int pa_nil))) (fun _ _ => rfl)) pa_nil)))))), ?_⟩
  refine ⟨.ref p, rfl, p, 4, n, rfl, hp, by omega, by decide, by decide, fun r1 H1 s1 a1 b1 => ⟨1, r1, rfl, rfl, ?_⟩⟩
  refine ⟨.ref p, rfl, p, 30, n - 1, rfl, s1.b, by omega, by decide, by decide, fun r2 H2 s2 a2 b2 => ⟨1, r2, rfl, rfl, ?_⟩⟩
  refine ⟨.ref p, rfl, p, 200, n - 1 - 1, rfl, s2.b, by omega, by decide, by decide, fun r3 H3 s3 a3 b3 => ⟨1, r3, rfl, rfl, (by show 4 ≤ sizeLine; decide), fun l hl => ?_⟩⟩
  have s4 := ((s1.trans s2).trans s3).new (o := .lst [.int (1 + r1), .int (1 + r2), .int (1 + r3), .int 200]) hl
  have el : upd H3 l (.lst [.int (1 + r1), .int (1 + r2), .int (1 + r3), .int 200]) l = some (.lst [.int (1 + r1), .int (1 + r2), .int (1 + r3), .int 200]) := upd_same
  refine ⟨.int m, rfl, .ref l, rfl, .ref p, rfl, p, 4, n - 1 - 1 - 1, rfl, s4.b, by omega, by decide, by decide, fun r4 H4 s5 a4 b4 => ?_⟩
  have el4 := s5.lst el
  obtain ⟨v, ev, mv⟩ := at_mem (xs := [.int (1 + r1), .int (1 + r2), .int (1 + r3), .int 200]) a4 b4
  obtain ⟨i, rfl, i1, i2⟩ : ∃ i, v = .int i ∧ 1 ≤ i ∧ i ≤ 200 := by
    simp only [List.mem_cons, List.not_mem_nil, or_false] at mv
    rcases mv with rfl | rfl | rfl | rfl
    · exact ⟨_, rfl, by omega, by omega⟩
    · exact ⟨_, rfl, by omega, by omega⟩
    · exact ⟨_, rfl, by omega, by omega⟩
    · exact ⟨_, rfl, by omega, by omega⟩
  refine ⟨l, _, r4, .int i, rfl, rfl, SqL.of el4, ev, m, i, rfl, ?_⟩
  have e5 : n - 4 = n - 1 - 1 - 1 - 1 := by omega
  refine k (if i < m then i else m) H4 (by rw [e5]; exact s4.trans s5) ?_ ?_ ?_ <;> (split <;> omega)
end
section
variable {P : Program} {w : World} {K : PySem.W.Frag} {mg : Str → Option Value} {base : Heap}
/-- a strip of m cells -/
def sp_strip : Sp := fun vs H Q _ => ∃ (p : Addr) (m : Int) (n : Nat), vs = [.ref p, .int m] ∧ H p = some (rl n p) ∧ 0 ≤ m ∧ m ≤ 200 ∧ 1002 ≤ n ∧
  ∀ H' q ts cs, cs.length = m.toNat → GoodCells cs → Sr p n (n - (2 + 5 * m.toNat)) H H' → H q = none → H' q = some (.lst ts) → DtAll H' ts (cs.map cellD) → Q (.ref q) H'
theorem ok_strip {f : Addr} {fd : FuncData} (o : Own K mg "_law_strip" s_law_strip ["reel", "size"] f fd) (T : Txt mg) (C_law_pull : Cal P w K mg base CX0 1 "_law_pull" s_law_pull ["reel", "count"] sp_pull) :
    Cal P w K mg base CX0 2 "_law_strip" s_law_strip ["reel", "size"] sp_strip := by
  refine ⟨f, fd, o, ?_⟩
  refine Dok.calm o.F sc_law_strip (fun vs H Q E h => ?_) (fun cdv A outer s H vs Q E hr h => ?_)
  · obtain ⟨p, m, n, rfl, _⟩ := h
    rfl
  obtain ⟨p, m, n, rfl, hp, m0, m1, n1, k⟩ := h
  refine ⟨_, (pss_cons (ps_par (i := 2) (j := 3) (by rfl) sc_law_strip.nd rfl rfl (by decide) rfl rfl (pa_cons (c_call C_law_pull (hr.mono (by omega)) pass0 (pa_cons (pv 0) (pa_cons pe_int pa_nil))) (pa_cons (c_call C_law_pull (hr.mono (by omega)) pass0 (pa_cons (pv 0) (pa_cons pe_int pa_nil))) pa_nil)) (by rfl))
    (pss_cons (ps_set (i := 4) sc_law_strip.nd rfl (Or.inl rfl) (pe_lst pa_nil))
    (pss_cons (ps_for PassesOwn.never rfl (pi_range1 rfl T.range (pa_cons (pv 1) pa_nil)) (pg_name (i := 5) sc_law_strip.nd rfl (Or.inl rfl)) (pss_cons (ps_set (i := 6) sc_law_strip.nd rfl (Or.inl rfl) (pe_ix (k_ixL (K := K) rfl) (pe_lst (pa_cons pe_bl (pa_cons pe_bl (pa_cons (pe_cmpR op_eq (c_call C_law_pull (hr.mono (by omega)) pass0 (pa_cons (pv 0) (pa_cons pe_int pa_nil))) pe_int (nomark _)) (pa_cons (pe_cmpR op_eq (c_call C_law_pull (hr.mono (by omega)) pass0 (pa_cons (pv 0) (pa_cons pe_int pa_nil))) pe_int (nomark _)) pa_nil))))) (pv 2) (fun _ _ => rfl)))
    (pss_one (ps_expr (pe_bm PySem.F.plainAttrs_list PySem.F.slot_list_append PySem.F.type_list_append mt_append (pv 4) (pa_cons (pe_tup (pa_cons (pv 6) (pa_cons (pe_ix (k_ixL (K := K) rfl) (pe_lst (pa_cons (c_call C_law_pull (hr.mono (by omega)) pass0 (pa_cons (pv 0) (pa_cons pe_int pa_nil))) (pa_cons (c_call C_law_pull (hr.mono (by omega)) pass0 (pa_cons (pv 0) (pa_cons pe_int pa_nil))) (pa_cons (pe_op op_sub pe_int (c_call C_law_pull (hr.mono (by omega)) pass0 (pa_cons (pv 0) (pa_cons pe_int pa_nil)))) (pa_cons pe_int pa_nil))))) (pv 3) (fun _ _ => rfl)) pa_nil))) pa_nil))))))
    (pss_one (ps_ret (pv 4)))))), ?_⟩
  -- holes, passes
  refine ⟨.ref p, rfl, p, 4, n, rfl, hp, by omega, by decide, by decide, fun ho H1 s1 a1 b1 => ?_⟩
  refine ⟨.ref p, rfl, p, 4, n - 1, rfl, s1.b, by omega, by decide, by decide, fun pa H2 s2 a2 b2 => ⟨_, _, rfl, ?_⟩⟩
  have s12 := s1.trans s2
  -- found = []
  refine ⟨Nat.zero_le _, fun q hq => ?_⟩
  have q0 : H q = none := s12.free hq
  have pq : p ≠ q := ne_of_none hp q0
  refine ⟨.int m, rfl, m, rfl, by omega, by omega, for_it walk_range (fun i σ H' => ∃ (ts : List V) (cs : List (Bool × Int)) (v5 v6 : Option V), σ = [some (.ref p), some (.int m), some (.int ho), some (.int pa), some (.ref q), v5, v6] ∧
    i ≤ m.toNat ∧ cs.length = i ∧ GoodCells cs ∧ Sr p n (n - (2 + 5 * i)) H H' ∧ H' q = some (.lst ts) ∧ DtAll H' ts (cs.map cellD)) ?_ (fun _ _ _ _ _ => True.intro) ?_ ?_⟩
  · refine ⟨[], [], none, none, rfl, Nat.zero_le _, rfl, fun _ z => (by cases z), ?_, upd_same, .nil⟩
    have e : n - (2 + 5 * 0) = n - 1 - 1 := by omega
    rw [e]
    exact s12.new hq
  · rintro i x σ H3 H3' hi ⟨ts, cs, v5, v6, rfl, _, hl, hg, s3, hL, hD⟩ ⟨rfl, rfl⟩
    have hi' : i < m.toNat := hi
    -- holed
    refine ⟨.ref p, rfl, p, 2, _, rfl, s3.b, by omega, by decide, by decide, fun r1 H4 s4 a4 b4 => ⟨rfl, ?_⟩⟩
    refine ⟨.ref p, rfl, p, 5, _, rfl, s4.b, by omega, by decide, by decide, fun r2 H5 s5 a5 b5 => ⟨rfl, (by show 4 ≤ sizeLine; decide), fun l hl1 => ?_⟩⟩
    obtain ⟨v, ev, mv⟩ := at_mem (xs := [.bl false, .bl true, .bl (decide (V.int r1 = V.int 0)), .bl (decide (V.int r2 = V.int 0))]) a1 b1
    obtain ⟨b, rfl⟩ : ∃ b, v = .bl b := by
      simp only [List.mem_cons, List.not_mem_nil, or_false] at mv
      rcases mv with rfl | rfl | rfl | rfl <;> exact ⟨_, rfl⟩
    refine ⟨.int ho, rfl, l, _, ho, .bl b, rfl, rfl, SqL.of upd_same, ev, ?_⟩
    have s6 := (s4.trans s5).new (o := .lst [.bl false, .bl true, .bl (decide (V.int r1 = V.int 0)), .bl (decide (V.int r2 = V.int 0))]) hl1
    have hL6 := s6.lst hL
    -- found.append((holed, ..))
    refine ⟨.ref q, rfl, .inl ⟨rfl, _, SqL.of hL6⟩, .bl b, rfl, ?_⟩
    refine ⟨.ref p, rfl, p, 4, _, rfl, s6.b, by omega, by decide, by decide, fun r3 H7 s7 a7 b7 => ?_⟩
    refine ⟨.ref p, rfl, p, 100, _, rfl, s7.b, by omega, by decide, by decide, fun r4 H8 s8 a8 b8 => ?_⟩
    refine ⟨.ref p, rfl, p, 2, _, rfl, s8.b, by omega, by decide, by decide, fun r5 H9 s9 a9 b9 => ⟨99, r5, rfl, rfl, (by show 4 ≤ sizeLine; decide), fun l2 hl2 => ?_⟩⟩
    obtain ⟨v, ev2, mv2⟩ := at_mem (xs := [.int r3, .int r4, .int (99 - r5), .int 0]) a2 b2
    obtain ⟨z, rfl, z0, z1⟩ : ∃ z, v = .int z ∧ 0 ≤ z ∧ z ≤ 99 := by
      simp only [List.mem_cons, List.not_mem_nil, or_false] at mv2
      rcases mv2 with rfl | rfl | rfl | rfl
      · exact ⟨_, rfl, by omega, by omega⟩
      · exact ⟨_, rfl, by omega, by omega⟩
      · exact ⟨_, rfl, by omega, by omega⟩
      · exact ⟨_, rfl, by omega, by omega⟩
    refine ⟨.int pa, rfl, l2, _, pa, .int z, rfl, rfl, SqL.of upd_same, ev2, (by show 2 ≤ sizeLine; decide), fun t ht => ?_⟩
    have s10 := (s7.trans s8).trans s9
    have s11 := (s10.new (o := .lst [.int r3, .int r4, .int (99 - r5), .int 0]) hl2).new (o := .tup [.bl b, .int z]) ht
    have hL11 := s11.lst hL6
    have tl : ts.length = i := by
      have := hD.len
      rw [List.length_map] at this
      omega
    refine ⟨q, ts, _, rfl, rfl, hL11, small1000 (by omega), ?_⟩
    have s36 := s3.trans (s6.trans s11)
    have e5 : n - (2 + 5 * i) - 1 - 1 - 1 - 1 - 1 = n - (2 + 5 * (i + 1)) := by omega
    have sF := s36.mut (o := .lst (ts ++ [.ref t])) q0
    rw [e5] at sF
    refine ⟨ts ++ [.ref t], cs ++ [(b, z)], _, _, rfl, hi', by simp [hl], ?_, sF, upd_same, ?_⟩
    · intro c hc
      rcases List.mem_append.mp hc with hc | hc
      · exact hg c hc
      · simp only [List.mem_singleton] at hc
        subst hc
        exact ⟨z0, z1⟩
    · have tq : ∀ {H : Hp} {y : Addr} {xs : List V}, H q = some (.lst ts) → H y = some (.tup xs) → y ≠ q := fun h1 h2 => ne_of h2 h1 (fun e => by cases e)
      have old : DtAll (upd (upd (upd H9 l2 (.lst [.int r3, .int r4, .int (99 - r5), .int 0])) t (.tup [.bl b, .int z])) q (.lst (ts ++ [.ref t]))) ts (cs.map cellD) := by
        have h1 := (hD.sr s6).sr s11
        exact cells_keep h1 (fun y xs e => by rw [upd_ne (tq hL11 e)]; exact e)
      rw [List.map_append]
      refine old.append (.one (.tup ?_ (.cons (.bl b) (.cons (.int z) .nil))))
      rw [upd_ne (tq hL11 upd_same)]
      exact upd_same
  · rintro σ H' ⟨ts, cs, v5, v6, rfl, _, hl, hg, s3, hL, hD⟩
    exact ⟨.ref q, rfl, k H' q ts cs hl hg s3 q0 hL hD⟩
end
/-- a strip of these cells stands at q -/
def Strip (H : Hp) (q : Addr) (cs : List (Bool × Int)) : Prop := ∃ ts, H q = some (.lst ts) ∧ DtAll H ts (cs.map cellD)
def stripD (cs : List (Bool × Int)) : PyData := .list (cs.map cellD)
section
variable {H H' H1 : Hp} {q a : Addr} {cs : List (Bool × Int)} {o : HO} {n m : Nat} {p : Addr}
theorem Strip.same (h : Strip H q cs) (s : Same H H') : Strip H' q cs := by
  obtain ⟨ts, e, d⟩ := h
  exact ⟨ts, s _ _ e, d.same s⟩
theorem Strip.sr (h : Strip H q cs) (s : Sr p n m H H') : Strip H' q cs := by
  obtain ⟨ts, e, d⟩ := h
  exact ⟨ts, s.lst e, d.sr s⟩
/-- another list is changed -/
theorem Strip.other {xs : List V} (h : Strip H q cs) (e : H a = some (.lst xs)) (d : q ≠ a) : Strip (upd H a o) q cs := by
  obtain ⟨ts, e1, d1⟩ := h
  refine ⟨ts, by rw [upd_ne d]; exact e1, cells_keep d1 fun b ys eb => ?_⟩
  rw [upd_ne (ne_of eb e (fun z => by cases z))]
  exact eb
theorem Strip.dt (h : Strip H q cs) : Dt H (.ref q) (stripD cs) := by
  obtain ⟨ts, e, d⟩ := h
  exact .lst e d
theorem Strip.of {ts : List V} (e : H q = some (.lst ts)) (d : DtAll H ts (cs.map cellD)) : Strip H q cs := ⟨ts, e, d⟩
theorem dep_strip {k : Nat} (h : cs.length ≤ 100000) : dep (k + 2) (stripD cs) := by
  refine ⟨by rw [List.length_map]; exact h, fun d hd => ?_⟩
  obtain ⟨c, _, rfl⟩ := List.mem_map.mp hd
  refine ⟨by show 2 ≤ 100000; decide, fun d hd => ?_⟩
  simp only [List.mem_cons, List.not_mem_nil, or_false] at hd
  rcases hd with rfl | rfl <;> (cases k <;> exact True.intro)
theorem dep_list {n : Nat} {ds : List PyData} (h : ds.length ≤ 100000) (k : ∀ d ∈ ds, dep n d) : dep (n + 1) (.list ds) := ⟨h, k⟩
theorem at0 {v : V} {xs : List V} : atI (v :: xs) 0 = some v := at_of (j := 0) rfl rfl
theorem ix0 {n : Nat} : ixN (n + 1) 0 = some 0 := by
  unfold ixN
  rw [if_pos (Int.le_refl 0), if_pos (by omega)]
  rfl
theorem Strip.two {b u : Addr} {cs' : List (Bool × Int)} (h : Strip H a cs) (h' : Strip H b cs') (e : H u = some (.lst [.ref a, .ref b])) : Dt H (.ref u) (.list [stripD cs, stripD cs']) := .lst e (.cons h.dt (.one h'.dt))
theorem dep_two {k : Nat} {cs cs' : List (Bool × Int)} (h : cs.length ≤ 100000) (h' : cs'.length ≤ 100000) : dep (k + 3) (.list [stripD cs, stripD cs']) := dep_list (by show 2 ≤ 100000; decide) fun d hd => by
  simp only [List.mem_cons, List.not_mem_nil, or_false] at hd
  rcases hd with rfl | rfl
  · exact dep_strip h
  · exact dep_strip h'
theorem Strip.app {ts ts' : List V} {cs' : List (Bool × Int)} (e : H q = some (.lst (ts ++ ts'))) (h : DtAll H ts (cs.map cellD)) (h' : DtAll H ts' (cs'.map cellD)) : Strip H q (cs ++ cs') :=
  ⟨_, e, by rw [List.map_append]; exact h.append h'⟩
/-- a strip that will be changed is forgotten -/
def del (H : Hp) (a : Addr) : Hp := fun b => if b = a then none else H b
theorem del_at : del H a a = none := if_pos rfl
theorem del_ne {b : Addr} (h : b ≠ a) : del H a b = H b := if_neg h
theorem same_del : Same (del H a) H := fun b o e => by
  by_cases eb : b = a
  · subst eb
    rw [del_at] at e
    cases e
  · rw [del_ne eb] at e
    exact e
theorem del_same (s : Same H H1) (h : H a = none) : Same H (del H1 a) := fun b o e => by
  rw [del_ne (ne_of_none e h)]
  exact s b o e
theorem Strip.del {xs : List V} (h : Strip H q cs) (e : H a = some (.lst xs)) (d : q ≠ a) : Strip (del H a) q cs := by
  obtain ⟨ts, e1, d1⟩ := h
  refine ⟨ts, by rw [del_ne d]; exact e1, cells_keep d1 fun b ys eb => ?_⟩
  rw [del_ne (ne_of eb e (fun z => by cases z))]
  exact eb
theorem Strip.ne_new (h : Strip H q cs) (e : H a = none) : q ≠ a := by
  obtain ⟨ts, e1, _⟩ := h
  exact ne_of_none e1 e
end
abbrev s_word : Stmt := topS 14
theorem sc_word : FnScope ["holed", "left"] ["holed", "left"] (defScope s_word) := ⟨rfl, rfl, rfl, by decide +kernel, rfl, by decide +kernel, by decide +kernel⟩

abbrev s_written : Stmt := topS 9
theorem sc_written : FnScope ["strip", "holed", "left"] ["strip"] (defScope s_written) := ⟨rfl, rfl, rfl, by decide +kernel, rfl, by decide +kernel, by decide +kernel⟩

abbrev s_is_number : Stmt := topS 6
theorem sc_is_number : FnScope ["word"] ["word"] (defScope s_is_number) := ⟨rfl, rfl, rfl, by decide +kernel, rfl, by decide +kernel, by decide +kernel⟩

abbrev s_cell : Stmt := topS 13
theorem sc_cell : FnScope ["word", "figures"] ["word"] (defScope s_cell) := ⟨rfl, rfl, rfl, by decide +kernel, rfl, by decide +kernel, by decide +kernel⟩

abbrev s_read : Stmt := topS 8
theorem sc_read : FnScope ["text", "words", "word"] ["text"] (defScope s_read) := ⟨rfl, rfl, rfl, by decide +kernel, rfl, by decide +kernel, by decide +kernel⟩

/-- a number's text; a cell's word; a strip's text -/
def nS (n : Int) : Str := (toString n : String)
def wS (b : Bool) (n : Int) : Str := if b then Str.empty ++ nS n ++ ("o" : Str) else nS n
def wordsS (cs : List (Bool × Int)) : List Str := cs.map fun c => wS c.1 c.2
def textS (cs : List (Bool × Int)) : Str := Txt.join (" " : Str) (wordsS cs)
def wordOk (b : Bool) (n : Int) : Bool := !(TL.tl (wS b n)).contains 32 && decide ((wS b n).length ≤ 3) && decide (Txt.removesuffix (wS b n) ("o" : Str) = nS n) && Txt.isdecimal (nS n)
  && decide ((nS n).length ≤ 2) && decide (PySem.intText? (nS n) = some n) && (decide (nS n = wS b n) == !b) && decide (nS n ++ ("" : Str) = nS n) && decide (nS n ++ ("o" : Str) = wS true n) && PyData.strOk (wS b n)
theorem words_ok : (List.range 100).all (fun n => wordOk true (n : Int) && wordOk false (n : Int)) = true := by decide +kernel
structure WordOk (b : Bool) (n : Int) : Prop where
  noblank : 32 ∉ TL.tl (wS b n)
  len : (wS b n).length ≤ 3
  suf : Txt.removesuffix (wS b n) ("o" : Str) = nS n
  dec : Txt.isdecimal (nS n) = true
  len2 : (nS n).length ≤ 2
  int : PySem.intText? (nS n) = some n
  eq : decide (nS n = wS b n) = !b
  e0 : nS n ++ ("" : Str) = nS n
  e1 : nS n ++ ("o" : Str) = wS true n
  fine : PyData.strOk (wS b n) = true
theorem word_ok {n : Int} (b : Bool) (h0 : 0 ≤ n) (h1 : n ≤ 99) : WordOk b n := by
  obtain ⟨m, rfl⟩ := Int.eq_ofNat_of_zero_le h0
  have q := List.all_eq_true.mp words_ok m (List.mem_range.mpr (by omega))
  have q2 : wordOk b (m : Int) = true := by
    rw [Bool.and_eq_true] at q
    cases b
    · exact q.2
    · exact q.1
  unfold wordOk at q2
  simp only [Bool.and_eq_true, decide_eq_true_eq, Bool.not_eq_true', beq_iff_eq] at q2
  obtain ⟨⟨⟨⟨⟨⟨⟨⟨⟨a1, a2⟩, a3⟩, a4⟩, a5⟩, a6⟩, a7⟩, a8⟩, a9⟩, a10⟩ := q2
  exact ⟨fun z => (by rw [List.contains_iff_mem.mpr z] at a1; cases a1), a2, a3, a4, a5, a6, a7, a8, a9, a10⟩
theorem small_log {n : Int} (h0 : 0 ≤ n) (h1 : n ≤ 99) : n.natAbs.log2 < 1920 := by
  have e : (2 : Nat) ^ 64 = 18446744073709551616 := by decide
  have l : n.natAbs < 2 ^ 64 := by
    rw [e]
    omega
  exact Nat.lt_trans (PySem.Flt.log2_lt_of (by decide) l) (by decide)
theorem words_len : ∀ {cs : List (Bool × Int)}, GoodCells cs → ((wordsS cs).map (·.length)).sum ≤ 3 * cs.length
  | [], _ => by show 0 ≤ 0; decide
  | c :: cs, h => by
    have h1 := h c List.mem_cons_self
    have a := (word_ok c.1 h1.1 h1.2).len
    have b := words_len (cs := cs) fun x hx => h x (List.mem_cons_of_mem _ hx)
    show (wS c.1 c.2).length + ((wordsS cs).map (·.length)).sum ≤ 3 * (cs.length + 1)
    omega
theorem words_count (cs : List (Bool × Int)) : (wordsS cs).length = cs.length := by
  unfold wordsS
  rw [List.length_map]
theorem joinL_len (s : List Nat) : ∀ ps : List (List Nat), (TL.joinL s ps).length ≤ (ps.map (·.length)).sum + ps.length * s.length
  | [] => by show 0 ≤ _; omega
  | [p] => by
    show p.length ≤ p.length + 0 + 1 * s.length
    omega
  | p :: q :: r => by
    have ih := joinL_len s (q :: r)
    show (p ++ (s ++ TL.joinL s (q :: r))).length ≤ p.length + ((q :: r).map (·.length)).sum + ((q :: r).length + 1) * s.length
    rw [List.length_append, List.length_append, Nat.add_mul]
    omega
theorem text_len {cs : List (Bool × Int)} (h : GoodCells cs) : (textS cs).length ≤ 4 * cs.length := by
  have e : (textS cs).length = (TL.tl (textS cs)).length := by
    show (textS cs).cps.size = (textS cs).cps.toList.length
    simp
  have e2 : TL.tl (textS cs) = TL.joinL (TL.tl (" " : Str)) ((wordsS cs).map TL.tl) := by
    unfold textS
    rw [TL.join_eq, TL.tl_join]
  have e3 : (TL.tl (" " : Str)).length = 1 := by decide +kernel
  have b := joinL_len (TL.tl (" " : Str)) ((wordsS cs).map TL.tl)
  rw [e3, List.length_map, words_count, List.map_map] at b
  have e4 : ((wordsS cs).map ((·.length) ∘ TL.tl)).sum = ((wordsS cs).map (·.length)).sum := by
    refine congrArg List.sum (List.map_congr_left fun x _ => ?_)
    show x.cps.toList.length = x.cps.size
    simp
  rw [e4] at b
  have c := words_len h
  rw [e, e2]
  omega
theorem text_split {cs : List (Bool × Int)} (h : GoodCells cs) (h1 : 1 ≤ cs.length) : Txt.split (textS cs) (" " : Str) = wordsS cs := by
  refine TL.split_join (s := 32) (S := []) (by decide +kernel) (by decide +kernel) ?_ ?_
  · intro e
    have := congrArg List.length e
    rw [words_count, List.length_nil] at this
    omega
  · intro p hp
    obtain ⟨c, hc, rfl⟩ := List.mem_map.mp hp
    have h1 := h c hc
    exact (word_ok c.1 h1.1 h1.2).noblank
/-- a strip's text is a text of plain signs -/
theorem text_fine {cs : List (Bool × Int)} (h : GoodCells cs) : PyData.strOk (textS cs) = true := by
  have e2 : TL.tl (textS cs) = TL.joinL (TL.tl (" " : Str)) ((wordsS cs).map TL.tl) := by
    unfold textS
    rw [TL.join_eq, TL.tl_join]
  have ok : ∀ z : Str, PyData.strOk z = true ↔ ∀ c ∈ TL.tl z, c < 0x110000 := fun z => by
    unfold PyData.strOk
    rw [Array.all_eq_true_iff_forall_mem]
    constructor
    · intro h c hc
      exact of_decide_eq_true (h c (Array.mem_toList_iff.mp hc))
    · intro h c hc
      exact decide_eq_true (h c (Array.mem_toList_iff.mpr hc))
  have join : ∀ (s : List Nat) (ps : List (List Nat)), (∀ c ∈ s, c < 0x110000) → (∀ p ∈ ps, ∀ c ∈ p, c < 0x110000) → ∀ c ∈ TL.joinL s ps, c < 0x110000 := by
    intro s ps hs
    induction ps with
    | nil => intro _ c hc; cases hc
    | cons p r ih =>
      intro hp c hc
      cases r with
      | nil => exact hp p List.mem_cons_self c hc
      | cons q r =>
        rcases List.mem_append.mp (show c ∈ p ++ (s ++ TL.joinL s (q :: r)) from hc) with hc | hc
        · exact hp p List.mem_cons_self c hc
        · rcases List.mem_append.mp hc with hc | hc
          · exact hs c hc
          · exact ih (fun x hx => hp x (List.mem_cons_of_mem _ hx)) c hc
  rw [ok, e2]
  refine join _ _ ((ok (" " : Str)).mp (by decide +kernel)) fun p hp => ?_
  obtain ⟨z, hz, rfl⟩ := List.mem_map.mp hp
  obtain ⟨c, hc, rfl⟩ := List.mem_map.mp hz
  exact (ok _).mp (word_ok c.1 (h c hc).1 (h c hc).2).fine
theorem good_take {cs : List (Bool × Int)} (h : GoodCells cs) (n : Nat) : GoodCells (cs.take n) := fun c hc => h c (List.mem_of_mem_take hc)
/-- one cell of a strip, as it stands -/
theorem cell_at {H : Hp} {ts : List V} {cs : List (Bool × Int)} {i : Nat} {x : V} (h : DtAll H ts (cs.map cellD)) (e : ts[i]? = some x) : ∃ t c, x = .ref t ∧ cs[i]? = some c ∧ H t = some (.tup [.bl c.1, .int c.2]) := by
  have l := h.len
  rw [List.length_map] at l
  have hi : i < ts.length := (List.getElem?_eq_some_iff.mp e).1
  have ec : cs[i]? = some (cs[i]'(by omega)) := List.getElem?_eq_getElem _
  obtain ⟨v, ev, dv⟩ := h.get (i := i) (d := cellD (cs[i]'(by omega))) (by rw [List.getElem?_map, ec]; rfl)
  cases e.symm.trans ev
  generalize cs[i]'(by omega) = c at ec dv
  cases dv with
  | tup et q =>
    cases q with
    | cons a1 q =>
      cases q with
      | cons a2 q =>
        cases q
        cases a1
        cases a2
        exact ⟨_, c, rfl, ec, et⟩
section
variable {P : Program} {w : World} {K : PySem.W.Frag} {mg : Str → Option Value} {base : Heap}
def sp_word : Sp := fun vs H Q _ => ∃ (b : Bool) (n : Int), vs = [.bl b, .int n] ∧ 0 ≤ n ∧ n ≤ 99 ∧ Q (.str (wS b n)) H
theorem ok_word {f : Addr} {fd : FuncData} (o : Own K mg "_word" s_word ["holed", "left"] f fd) (T : Txt mg) : Cal P w K mg base CX0 1 "_word" s_word ["holed", "left"] sp_word := by
  refine ⟨f, fd, o, ?_⟩
  refine Dok.calm o.F sc_word (fun vs H Q E h => ?_) (fun cdv A outer s H vs Q E hr h => ?_)
  · obtain ⟨b, n, rfl, _⟩ := h
    rfl
  obtain ⟨b, n, rfl, h0, h1, k⟩ := h
  have lg := small_log h0 h1
  have wk := word_ok b h0 h1
  refine ⟨_, (pss_one (ps_ret (pe_ifExp (pt_val (pv 0)) (pe_joined (.cons (pe_fmt (pv 1)) (.cons pe_str .nil))) (pe_callTy call_str_int (by rfl) T.str (by decide +kernel) (pa_cons (pv 1) pa_nil))))), ?_⟩
  cases b with
  | true =>
    refine ⟨.bl true, rfl, true, rfl, iteT ?_⟩
    have lw := wk.len
    refine ⟨.int n, rfl, .inr ⟨n, rfl, lg, nS n, rfl, ?_, _, rfl, Nat.le_trans lw (by decide), k⟩⟩
    have : (Str.empty ++ nS n).length ≤ (wS true n).length := by
      show (Str.empty ++ nS n).cps.size ≤ ((Str.empty ++ nS n).cps ++ ("o" : Str).cps).size
      rw [Array.size_append]
      omega
    exact Nat.le_trans this (Nat.le_trans lw (by decide))
  | false =>
    refine ⟨.bl false, rfl, false, rfl, iteF ?_⟩
    exact ⟨.int n, rfl, n, rfl, lg, k⟩
/-- the text of a strip -/
def sp_written : Sp := fun vs H Q _ => ∃ (a : Addr) (cs : List (Bool × Int)), vs = [.ref a] ∧ Strip H a cs ∧ GoodCells cs ∧ cs.length ≤ 1000 ∧ ∀ H', Same H H' → Q (.str (textS cs)) H'
theorem ok_written {f : Addr} {fd : FuncData} (o : Own K mg "written" s_written ["strip"] f fd) (T : Txt mg) (C_word : Cal P w K mg base CX0 1 "_word" s_word ["holed", "left"] sp_word) : Cal P w K mg base CX0 2 "written" s_written ["strip"] sp_written := by
  refine ⟨f, fd, o, ?_⟩
  refine Dok.calm o.F sc_written (fun vs H Q E h => ?_) (fun cdv A outer s H vs Q E hr h => ?_)
  · obtain ⟨a, cs, rfl, _⟩ := h
    rfl
  obtain ⟨a, cs, rfl, ⟨ts, ea, da⟩, hg, hl, k⟩ := h
  have lt : ts.length = cs.length := by
    have := da.len
    rw [List.length_map] at this
    exact this
  refine ⟨_, (pss_one (ps_ret (pe_join pe_str (pe_lc (own := [("holed", 1), ("left", 2)]) (g := (gTup K 2 (gCons (gName 1) (gCons (gName 2) gNil)))) (by rfl) sc_written.nd (pi_list (pv 0)) (blkOk_by (own := [("holed", 1), ("left", 2)]) (N := ["strip", "holed", "left"]) (sc := defScope s_written) (by decide +kernel)) (fun _ _ _ _ _ => (pg_tup rfl (pgs_cons (pg_name (i := 1) sc_written.nd rfl (Or.inl rfl)) (pgs_cons (pg_name (i := 2) sc_written.nd rfl (Or.inl rfl)) pgs_nil)))) (fun _ _ _ _ _ => pts_nil) (fun _ _ _ _ _ => (c_call C_word (hr.mono (by omega)) pass0 (pa_cons (pv 1) (pa_cons (pv 2) pa_nil)))))))), ?_⟩
  refine ⟨⟨_, rfl⟩, .ref a, rfl, a, rfl, ⟨ts, SqL.of ea⟩, fun D hD => ?_⟩
  refine lc_it (walk_list (xs := ts)) (fun i H' => Same H H' ∧ H' D = some (.lst ((wordsS (cs.take i)).map V.str))) ⟨same_new hD, upd_same⟩ (fun i H' _ e => SqL.of (e.1 _ _ ea)) ?_ ?_
  · rintro i x H1 H1' hi ⟨s1, eD⟩ ⟨rfl, ex⟩
    obtain ⟨t, c, rfl, ec, et⟩ := cell_at (da.same s1) ex
    have gc := hg c (List.mem_of_getElem? ec)
    refine ⟨t, _, rfl, SqT.of et, rfl, .bl c.1, _, rfl, .int c.2, [], rfl, rfl, rfl, tyes (iteT ?_)⟩
    refine ⟨.bl c.1, rfl, .int c.2, rfl, c.1, c.2, rfl, gc.1, gc.2, ?_⟩
    refine ⟨_, eD, ?_, same_mut s1 hD, ?_⟩
    · rw [List.length_map, words_count, List.length_take]
      exact long_ok (by omega)
    · rw [upd_same, List.take_add_one, ec]
      unfold wordsS
      rw [List.map_append, List.map_append]
      rfl
  · rintro H1 ⟨s1, eD⟩
    rw [lt, List.take_length] at eD
    refine ⟨_, D, wordsS cs, rfl, rfl, .inl (SqL.of eD), ?_, k _ s1⟩
    have := words_len hg
    have e1 : (" " : Str).length = 1 := by decide +kernel
    rw [words_count, e1]
    omega
def sp_is_number : Sp := fun vs H Q _ => ∃ (n : Int), vs = [.str (nS n)] ∧ 0 ≤ n ∧ n ≤ 99 ∧ Q (.bl true) H
theorem ok_is_number {f : Addr} {fd : FuncData} (o : Own K mg "is_number" s_is_number ["word"] f fd) (T : Txt mg) : Cal P w K mg base CX0 1 "is_number" s_is_number ["word"] sp_is_number := by
  refine ⟨f, fd, o, ?_⟩
  refine Dok.calm o.F sc_is_number (fun vs H Q E h => ?_) (fun cdv A outer s H vs Q E hr h => ?_)
  · obtain ⟨n, rfl, _⟩ := h
    rfl
  obtain ⟨n, rfl, h0, h1, k⟩ := h
  have lg := small_log h0 h1
  have wk := word_ok false h0 h1
  refine ⟨_, (pss_cons (ps_if (PW.pt (pw_or (pt_cmpR op_gt (pe_callB call_len_str (by rfl) T.len (by decide +kernel) (pa_cons (pv 0) pa_nil)) pe_int (nomark _)) (pw_or1 (pt_not (pt_val (pe_bm0 PySem.F.plainAttrs_str PySem.F.slot_str_isdecimal PySem.F.type_str_isdecimal mt_isdecimal (pv 0))))))) (pss_one (ps_ret pe_bl)) pss_nil)
    (pss_one (ps_ret (pe_cmpR op_eq (pv 0) (pe_callTy call_str_int (by rfl) T.str (by decide +kernel) (pa_cons (pe_callTy call_int_str (by rfl) T.int (by decide +kernel) (pa_cons (pv 0) pa_nil)) pa_nil)) (nomark _))))), ?_⟩
  have l2 : ¬ ((nS n).length : Int) > 9 := by
    have := wk.len2
    omega
  refine ⟨_, rfl, nS n, rfl, Nat.le_trans wk.len2 (by decide), _, _, rfl, rfl, false, by
      show V.bl (decide ((9 : Int) < ((nS n).length : Int))) = V.bl false
      rw [decide_eq_false (by omega)], iteF ?_⟩
  refine ⟨_, rfl, rfl, nS n, rfl, rfl, True.intro, true, by rw [wk.dec], iteF ?_⟩
  refine ⟨_, rfl, _, rfl, nS n, n, rfl, wk.int, Nat.le_trans wk.len2 (by decide), n, rfl, lg, rfl, ?_⟩
  rw [decide_eq_true (show V.str (nS n) = V.str ((toString n : String) : Str) from rfl)]
  exact k
/-- a good word's cell, as a new tuple -/
def sp_cell : Sp := fun vs H Q _ => ∃ (b : Bool) (n : Int), vs = [.str (wS b n)] ∧ 0 ≤ n ∧ n ≤ 99 ∧ ∀ t H', H t = none → Same H H' → H' t = some (.tup [.bl b, .int n]) → Q (.ref t) H'
theorem ok_cell {f : Addr} {fd : FuncData} (o : Own K mg "_cell" s_cell ["word"] f fd) (T : Txt mg) (C_is_number : Cal P w K mg base CX0 1 "is_number" s_is_number ["word"] sp_is_number) : Cal P w K mg base CX0 2 "_cell" s_cell ["word"] sp_cell := by
  refine ⟨f, fd, o, ?_⟩
  refine Dok.calm o.F sc_cell (fun vs H Q E h => ?_) (fun cdv A outer s H vs Q E hr h => ?_)
  · obtain ⟨b, n, rfl, _⟩ := h
    rfl
  obtain ⟨b, n, rfl, h0, h1, k⟩ := h
  have wk := word_ok b h0 h1
  refine ⟨_, (pss_cons (ps_set (i := 1) sc_cell.nd rfl (Or.inl rfl) (pe_bm PySem.F.plainAttrs_str PySem.F.slot_str_removesuffix PySem.F.type_str_removesuffix mt_removesuffix (pv 0) (pa_cons pe_str pa_nil)))
    (pss_cons (ps_if (PW.pt (pw_or (pt_not (pt_val (c_call C_is_number (hr.mono (by omega)) pass0 (pa_cons (pv 1) pa_nil)))) (pw_or1 (pt_cmpR op_gt (pe_callTy call_int_str (by rfl) T.int (by decide +kernel) (pa_cons (pv 1) pa_nil)) (c_const T.c_MOST_PASSES) (nomark _))))) (pss_one (ps_never)) pss_nil)
    (pss_one (ps_ret (pe_tup (pa_cons (pe_cmpR op_ne (pv 1) (pv 0) (nomark _)) (pa_cons (pe_callTy call_int_str (by rfl) T.int (by decide +kernel) (pa_cons (pv 1) pa_nil)) pa_nil))))))), ?_⟩
  refine ⟨_, rfl, rfl, wS b n, _, rfl, rfl, Nat.le_trans wk.len (by decide), ?_⟩
  rw [wk.suf]
  refine ⟨_, rfl, n, rfl, h0, h1, true, rfl, iteF ⟨_, rfl, nS n, n, rfl, wk.int, Nat.le_trans wk.len2 (by decide), n, 99, rfl, rfl, false, by
      show V.bl (decide ((99 : Int) < n)) = V.bl false
      rw [decide_eq_false (by omega)], iteF ?_⟩⟩
  refine ⟨_, rfl, _, rfl, rfl, _, rfl, nS n, n, rfl, wk.int, Nat.le_trans wk.len2 (by decide), (by show 2 ≤ sizeLine; decide), fun t ht => ?_⟩
  have e : (!decide (V.str (nS n) = V.str (wS b n))) = b := by
    have q : decide (V.str (nS n) = V.str (wS b n)) = decide (nS n = wS b n) := by
      by_cases z : nS n = wS b n
      · rw [decide_eq_true z, decide_eq_true (congrArg V.str z)]
      · rw [decide_eq_false z, decide_eq_false (fun y => z (V.str.inj y))]
    rw [q, wk.eq, Bool.not_not]
  exact k t _ ht (same_new ht) (by rw [upd_same, e])
/-- the strip of a good text, a new one -/
def sp_read : Sp := fun vs H Q _ => ∃ (cs : List (Bool × Int)), vs = [.str (textS cs)] ∧ GoodCells cs ∧ 1 ≤ cs.length ∧ cs.length ≤ 200 ∧ ∀ q H', H q = none → Same H H' → Strip H' q cs → Q (.ref q) H'
theorem ok_read {f : Addr} {fd : FuncData} (o : Own K mg "read" s_read ["text"] f fd) (T : Txt mg) (C_cell : Cal P w K mg base CX0 2 "_cell" s_cell ["word"] sp_cell) : Cal P w K mg base CX0 3 "read" s_read ["text"] sp_read := by
  refine ⟨f, fd, o, ?_⟩
  refine Dok.calm o.F sc_read (fun vs H Q E h => ?_) (fun cdv A outer s H vs Q E hr h => ?_)
  · obtain ⟨cs, rfl, _⟩ := h
    rfl
  obtain ⟨cs, rfl, hg, h1, hl, k⟩ := h
  refine ⟨_, (pss_cons (ps_set (i := 1) sc_read.nd rfl (Or.inl rfl) (pe_split (pv 0) pe_str))
    (pss_cons (ps_if (pt_cmpR op_gt (pe_callB (kc_len (K := K) rfl) (by rfl) T.len (by decide +kernel) (pa_cons (pv 1) pa_nil)) (c_const T.c_MOST_CELLS) (nomark _)) (pss_one (ps_never)) pss_nil)
    (pss_one (ps_ret (pe_lc (own := [("word", 2)]) (g := (gName 2)) (by rfl) sc_read.nd (pi_list (pv 1)) (blkOk_by (own := [("word", 2)]) (N := ["text", "words", "word"]) (sc := defScope s_read) (by decide +kernel)) (fun _ _ _ _ _ => (pg_name (i := 2) sc_read.nd rfl (Or.inl rfl))) (fun _ _ _ _ _ => pts_nil) (fun _ _ _ _ _ => (c_call C_cell (hr.mono (by omega)) pass0 (pa_cons (pv 2) pa_nil)))))))), ?_⟩
  have tl := text_len hg
  refine ⟨_, rfl, ⟨_, rfl⟩, textS cs, _, rfl, rfl, by decide +kernel, ?_, fun p hp => ?_⟩
  · have e : sizeLine = 16777216 := by rw [sizeLine_eq]
    rw [e]
    omega
  rw [text_split hg h1]
  have s1 := same_new (o := .lst ((wordsS cs).map V.str)) hp
  have wl : ((wordsS cs).map V.str).length = cs.length := by rw [List.length_map, words_count]
  refine ⟨.ref p, rfl, p, _, rfl, .inl (SqL.of upd_same), _, _, rfl, rfl, false, ?_, iteF ?_⟩
  · show V.bl (decide ((200 : Int) < (((wordsS cs).map V.str).length : Int))) = V.bl false
    rw [decide_eq_false (by rw [wl]; omega)]
  refine ⟨.ref p, rfl, p, rfl, ⟨_, SqL.of upd_same⟩, fun D hD => ?_⟩
  refine lc_it (walk_list (xs := (wordsS cs).map V.str)) (fun i H' => Same (upd H p (.lst ((wordsS cs).map V.str))) H' ∧ ∃ ts, H' D = some (.lst ts) ∧ DtAll H' ts ((cs.take i).map cellD)) ⟨same_new hD, [], upd_same, .nil⟩ (fun i H' _ e => SqL.of (e.1 _ _ upd_same)) ?_ ?_
  · rintro i x H1 H1' hi ⟨s2, ts, eD, dD⟩ ⟨rfl, ex⟩
    obtain ⟨c, ec, rfl⟩ : ∃ c, cs[i]? = some c ∧ x = .str (wS c.1 c.2) := by
      unfold wordsS at ex
      rw [List.getElem?_map, List.getElem?_map] at ex
      cases q : cs[i]? with
      | none => rw [q] at ex; cases ex
      | some c => rw [q] at ex; exact ⟨c, rfl, (Option.some.inj ex).symm⟩
    have gc := hg c (List.mem_of_getElem? ec)
    refine ⟨rfl, tyes (iteT ?_)⟩
    refine ⟨_, rfl, c.1, c.2, rfl, gc.1, gc.2, fun t H2 ht s3 et => ?_⟩
    have tD : t ≠ D := (ne_of_none eD ht).symm
    have lt := dD.len
    rw [List.length_map, List.length_take] at lt
    refine ⟨ts, s3 _ _ eD, long_ok (by omega), same_mut (s2.trans s3) hD, ts ++ [.ref t], upd_same, ?_⟩
    rw [List.take_add_one, ec, List.map_append]
    refine (cells_keep (dD.same s3) fun b xs e => ?_).append (.one (.tup ?_ (.cons (.bl _) (.cons (.int _) .nil))))
    · rw [upd_ne (ne_of e (s3 _ _ eD) (fun z => by cases z))]
      exact e
    · rw [upd_ne tD]
      exact et
  · rintro H1 ⟨s2, ts, eD, dD⟩
    rw [wl, List.take_length] at dD
    exact k D H1 (s1.free hD) (s1.trans s2) ⟨ts, eD, dD⟩
end
abbrev s_glued : Stmt := topS 10
theorem sc_glued : FnScope ["one", "other"] ["one", "other"] (defScope s_glued) := ⟨rfl, rfl, rfl, by decide +kernel, rfl, by decide +kernel, by decide +kernel⟩

section
variable {P : Program} {w : World} {K : PySem.W.Frag} {mg : Str → Option Value} {base : Heap}
/-- both lists, one behind the other, as a new one -/
def sp_glued : Sp := fun vs H Q _ => ∃ (a b : Addr) (xs ys : List V), vs = [.ref a, .ref b] ∧ H a = some (.lst xs) ∧ H b = some (.lst ys) ∧ xs.length + ys.length ≤ 100000 ∧
  ∀ q H', H q = none → Same H H' → H' q = some (.lst (xs ++ ys)) → Q (.ref q) H'
theorem ok_glued {f : Addr} {fd : FuncData} (o : Own K mg "glued" s_glued ["one", "other"] f fd) : Cal P w K mg base CX0 1 "glued" s_glued ["one", "other"] sp_glued := by
  refine ⟨f, fd, o, ?_⟩
  refine Dok.calm o.F sc_glued (fun vs H Q E h => ?_) (fun cdv A outer s H vs Q E hr h => ?_)
  · obtain ⟨a, b, xs, ys, rfl, _⟩ := h
    rfl
  obtain ⟨a, b, xs, ys, rfl, ha, hb, hl, k⟩ := h
  refine ⟨_, (pss_one (ps_ret (pe_lst (StX.pa_star (pv 0) (StX.pa_star (pv 1) pa_nil))))), ?_⟩
  refine ⟨.ref a, rfl, a, xs, rfl, .inr (SqL.of ha), .ref b, rfl, b, ys, rfl, .inr (SqL.of hb), ?_, fun q hq => ?_⟩
  · rw [List.append_nil, List.length_append]
    exact Nat.le_of_lt (long_ok hl)
  · rw [List.append_nil]
    exact k q _ hq (same_new hq) upd_same
end
abbrev s_parted : Stmt := topS 11
theorem sc_parted : FnScope ["strip", "cell"] ["strip", "cell"] (defScope s_parted) := ⟨rfl, rfl, rfl, by decide +kernel, rfl, by decide +kernel, by decide +kernel⟩

abbrev s_turned : Stmt := topS 12
theorem sc_turned : FnScope ["strip"] ["strip"] (defScope s_turned) := ⟨rfl, rfl, rfl, by decide +kernel, rfl, by decide +kernel, by decide +kernel⟩

section
variable {P : Program} {w : World} {K : PySem.W.Frag} {mg : Str → Option Value} {base : Heap}
/-- turned about, as a new list -/
def sp_turned : Sp := fun vs H Q _ => ∃ (a : Addr) (xs : List V), vs = [.ref a] ∧ H a = some (.lst xs) ∧ ∀ q H', H q = none → Same H H' → H' q = some (.lst xs.reverse) → Q (.ref q) H'
theorem ok_turned {f : Addr} {fd : FuncData} (o : Own K mg "turned" s_turned ["strip"] f fd) : Cal P w K mg base CX0 1 "turned" s_turned ["strip"] sp_turned := by
  refine ⟨f, fd, o, ?_⟩
  refine Dok.calm o.F sc_turned (fun vs H Q E h => ?_) (fun cdv A outer s H vs Q E hr h => ?_)
  · obtain ⟨a, xs, rfl, _⟩ := h
    rfl
  obtain ⟨a, xs, rfl, ha, k⟩ := h
  refine ⟨_, (pss_one (ps_ret (pe_revL (pv 0)))), ?_⟩
  exact ⟨.ref a, rfl, a, xs, rfl, SqL.of ha, fun q hq => k q _ hq (same_new hq) upd_same⟩
/-- parted behind a cell that is not the last -/
def sp_parted : Sp := fun vs H Q _ => ∃ (a : Addr) (xs : List V) (c : Nat), vs = [.ref a, .int c] ∧ H a = some (.lst xs) ∧ c + 1 < xs.length ∧
  ∀ q1 q2 t H', H q1 = none → H q2 = none → H t = none → q1 ≠ q2 → Same H H' → H' q1 = some (.lst (xs.take (c + 1))) → H' q2 = some (.lst (xs.drop (c + 1))) → H' t = some (.tup [.ref q1, .ref q2]) → Q (.ref t) H'
theorem ok_parted {f : Addr} {fd : FuncData} (o : Own K mg "parted" s_parted ["strip", "cell"] f fd) (T : Txt mg) : Cal P w K mg base CX0 1 "parted" s_parted ["strip", "cell"] sp_parted := by
  refine ⟨f, fd, o, ?_⟩
  refine Dok.calm o.F sc_parted (fun vs H Q E h => ?_) (fun cdv A outer s H vs Q E hr h => ?_)
  · obtain ⟨a, xs, c, rfl, _⟩ := h
    rfl
  obtain ⟨a, xs, c, rfl, ha, hc, k⟩ := h
  refine ⟨_, (pss_cons (ps_if (pt_not (pt_chain op_le op_lt pe_int (pv 1) (pe_op op_sub (pe_callB (kc_len (K := K) rfl) (by rfl) T.len (by decide +kernel) (pa_cons (pv 0) pa_nil)) pe_int))) (pss_one (ps_never)) pss_nil)
    (pss_one (ps_ret (pe_tup (pa_cons (pe_slice (k_slL (K := K) rfl) (pv 0) po_none (po_some (pe_op op_add (pv 1) pe_int))) (pa_cons (pe_slice (k_slL (K := K) rfl) (pv 0) (po_some (pe_op op_add (pv 1) pe_int)) po_none) pa_nil)))))), ?_⟩
  refine ⟨.int c, rfl, 0, c, rfl, rfl, true, ?_, iteT ?_⟩
  · show V.bl (decide ((0 : Int) ≤ (c : Int))) = V.bl true
    rw [decide_eq_true (by omega)]
  refine ⟨.ref a, rfl, a, xs, rfl, .inl (SqL.of ha), _, _, rfl, rfl, c, (xs.length : Int) - 1, rfl, rfl, true, ?_, iteF ?_⟩
  · show V.bl (decide ((c : Int) < (xs.length : Int) - 1)) = V.bl true
    rw [decide_eq_true (by omega)]
  have e1 : (some ((c : Int) + 1)) = some ((c + 1 : Nat) : Int) := by rw [Int.natCast_add]; rfl
  refine ⟨.ref a, rfl, .int c, rfl, c, 1, rfl, rfl, _, rfl, a, xs, rfl, SqL.of ha, fun p1 hp1 => ?_⟩
  have s1 := same_new (o := .lst (cutV xs none (some ((c : Int) + 1)))) hp1
  refine ⟨.ref a, rfl, .int c, rfl, c, 1, rfl, rfl, _, rfl, a, xs, rfl, SqL.of (s1 _ _ ha), fun p2 hp2 => ⟨(by show 2 ≤ sizeLine; decide), fun t ht => ?_⟩⟩
  have s2 := same_new (o := .lst (cutV xs (some ((c : Int) + 1)) none)) hp2
  have s3 := same_new (o := .tup [.ref p1, .ref p2]) ht
  refine k p1 p2 t _ hp1 (s1.free hp2) ((s1.trans s2).free ht) (ne_of_none upd_same hp2) ((s1.trans s2).trans s3) ?_ ?_ upd_same
  · refine s3 _ _ (s2 _ _ ?_)
    rw [upd_same, e1, cut_to]
  · refine s3 _ _ ?_
    rw [upd_same, e1, cut_from]
end
abbrev s_law_text : Stmt := topS 20
theorem sc_law_text : FnScope ["strip", "words", "holed", "left"] ["strip"] (defScope s_law_text) := ⟨rfl, rfl, rfl, by decide +kernel, rfl, by decide +kernel, by decide +kernel⟩

section
variable {P : Program} {w : World} {K : PySem.W.Frag} {mg : Str → Option Value} {base : Heap}
theorem ok_page {f : Addr} {fd : FuncData} (o : Own K mg "_law_text" s_law_text ["strip"] f fd) (T : Txt mg) : Cal P w K mg base CX0 1 "_law_text" s_law_text ["strip"] sp_written := by
  refine ⟨f, fd, o, ?_⟩
  refine Dok.calm o.F sc_law_text (fun vs H Q E h => ?_) (fun cdv A outer s H vs Q E hr h => ?_)
  · obtain ⟨a, cs, rfl, _⟩ := h
    rfl
  obtain ⟨a, cs, rfl, ⟨ts, ea, da⟩, hg, hl, k⟩ := h
  have lt : ts.length = cs.length := by
    have := da.len
    rw [List.length_map] at this
    exact this
  refine ⟨_, (pss_cons (ps_set (i := 1) sc_law_text.nd rfl (Or.inl rfl) (pe_lst pa_nil))
    (pss_cons (ps_for PassesOwn.never rfl (pi_list (pv 0)) (pg_tup rfl (pgs_cons (pg_name (i := 2) sc_law_text.nd rfl (Or.inl rfl)) (pgs_cons (pg_name (i := 3) sc_law_text.nd rfl (Or.inl rfl)) pgs_nil))) (pss_one (ps_expr (pe_bm PySem.F.plainAttrs_list PySem.F.slot_list_append PySem.F.type_list_append mt_append (pv 1) (pa_cons (pe_op op_add_str (pe_callTy call_str_int (by rfl) T.str (by decide +kernel) (pa_cons (pv 3) pa_nil)) (pe_ix (k_ixL (K := K) rfl) (pe_lst (pa_cons pe_str (pa_cons pe_str pa_nil))) (pe_callTy call_int1 (by rfl) T.int (by decide +kernel) (pa_cons (pv 2) pa_nil)) (fun _ _ => rfl))) pa_nil)))))
    (pss_one (ps_ret (pe_join pe_str (pv 1)))))), ?_⟩
  refine ⟨Nat.zero_le _, fun D hD => ?_⟩
  have aD : a ≠ D := ne_of_none ea hD
  refine ⟨.ref a, rfl, a, rfl, ⟨ts, SqL.of ((same_new hD) _ _ ea)⟩, ?_⟩
  refine for_it (walk_list (xs := ts)) (fun i σ H' => ∃ v2 v3 : Option V, σ = [some (.ref a), some (.ref D), v2, v3] ∧ Same H H' ∧ H' D = some (.lst ((wordsS (cs.take i)).map V.str))) ⟨none, none, rfl, same_new hD, upd_same⟩ (fun i σ H' _ ⟨_, _, _, e, _⟩ => SqL.of (e _ _ ea)) ?_ ?_
  · rintro i x σ H1 H1' hi ⟨v2, v3, rfl, s1, eD⟩ ⟨rfl, ex⟩
    obtain ⟨t, c, rfl, ec, et⟩ := cell_at (da.same s1) ex
    obtain ⟨g0, g1⟩ := hg c (List.mem_of_getElem? ec)
    have wk := word_ok c.1 g0 g1
    refine ⟨t, _, rfl, SqT.of et, rfl, .bl c.1, _, rfl, .int c.2, [], rfl, rfl, ?_⟩
    refine ⟨.ref D, rfl, .inl ⟨rfl, _, SqL.of eD⟩, .int c.2, rfl, c.2, rfl, small_log g0 g1, (by show 2 ≤ sizeLine; decide), fun l hl2 => ?_⟩
    have Dl : D ≠ l := ne_of_none eD hl2
    have s2 := same_new (o := .lst [.str ("" : Str), .str ("o" : Str)]) hl2
    have ew : ((toString c.2 : String) : Str) ++ (if c.1 then ("o" : Str) else ("" : Str)) = wS c.1 c.2 := by
      cases e : c.1 with
      | true => exact wk.e1
      | false => exact wk.e0
    refine ⟨.bl c.1, rfl, .inr ⟨c.1, rfl, l, _, _, .str (if c.1 then ("o" : Str) else ("" : Str)), rfl, rfl, SqL.of upd_same, ?_, _, _, rfl, rfl, ?_, ?_⟩⟩
    · cases c.1 <;> rfl
    · have e2 : (((toString c.2 : String) : Str) ++ (if c.1 then ("o" : Str) else ("" : Str))).length = ((toString c.2 : String) : Str).length + (if c.1 then ("o" : Str) else ("" : Str)).length := Array.size_append ..
      rw [← e2, ew]
      exact Nat.le_trans wk.len (by decide)
    rw [ew]
    refine ⟨D, _, _, rfl, rfl, s2 _ _ eD, ?_, _, _, rfl, same_mut (s1.trans s2) hD, ?_⟩
    · rw [List.length_map, words_count, List.length_take]
      exact long_ok (by omega)
    · rw [upd_same, List.take_add_one, ec]
      unfold wordsS
      rw [List.map_append, List.map_append]
      rfl
  · rintro σ H1 ⟨v2, v3, rfl, s1, eD⟩
    rw [lt, List.take_length] at eD
    refine ⟨⟨_, rfl⟩, .ref D, rfl, _, D, wordsS cs, rfl, rfl, .inl (SqL.of eD), ?_, k _ s1⟩
    have := words_len hg
    have e1 : (" " : Str).length = 1 := by decide +kernel
    rw [words_count, e1]
    omega
end
abbrev s_law_change : Stmt := topS 21
theorem sc_law_change : FnScope ["reel", "strip", "cell", "at", "way"] ["reel", "strip"] (defScope s_law_change) := ⟨rfl, rfl, rfl, by decide +kernel, rfl, by decide +kernel, by decide +kernel⟩

abbrev s_law_all : Stmt := topS 22
theorem sc_law_all : FnScope ["reel", "strip", "other", "due", "told", "cell"] ["reel", "strip", "other"] (defScope s_law_all) := ⟨rfl, rfl, rfl, by decide +kernel, rfl, by decide +kernel, by decide +kernel⟩

abbrev s_law : Stmt := topS 23
theorem sc_law : FnScope ["script", "k", "reel", "strip", "other", "past", "turn", "told", "due", "before", "then", "some"] ["script"] (defScope s_law) := ⟨rfl, rfl, rfl, by decide +kernel, rfl, by decide +kernel, by decide +kernel⟩

theorem Strip.len {H : Hp} {q : Addr} {cs : List (Bool × Int)} {ts : List V} (h : DtAll H ts (cs.map cellD)) : ts.length = cs.length := by
  have := h.len
  rw [List.length_map] at this
  exact this
theorem good_app {c1 c2 : List (Bool × Int)} (h1 : GoodCells c1) (h2 : GoodCells c2) : GoodCells (c1 ++ c2) := fun c hc => (List.mem_append.mp hc).elim (h1 c) (h2 c)
theorem good_drop {cs : List (Bool × Int)} (h : GoodCells cs) (n : Nat) : GoodCells (cs.drop n) := fun c hc => h c (List.mem_of_mem_drop hc)
theorem good_rev {cs : List (Bool × Int)} (h : GoodCells cs) : GoodCells cs.reverse := fun c hc => h c (List.mem_reverse.mp hc)
theorem shp_strip (cs : List (Bool × Int)) : shp 2 (stripD cs) := shp_list fun d hd => by
  obtain ⟨c, _, rfl⟩ := List.mem_map.mp hd
  refine shp_tup fun d hd => ?_
  simp only [List.mem_cons, List.not_mem_nil, or_false] at hd
  rcases hd with rfl | rfl <;> exact True.intro
theorem DtAll.setAt {H : Hp} {v : V} {d : PyData} (hv : Dt H v d) : ∀ {vs : List V} {ds : List PyData} (i : Nat), DtAll H vs ds → DtAll H (vs.set i v) (ds.set i d)
  | _, [], _, h => by cases h; exact .nil
  | _, x :: ds, 0, h => by
    cases h with
    | cons a r => exact .cons hv r
  | _, x :: ds, i + 1, h => by
    cases h with
    | cons a r => exact .cons a (DtAll.setAt hv i r)
theorem ixn {n i : Nat} (h : i < n) : ixN n (i : Int) = some i := by
  unfold ixN
  rw [if_pos (Int.natCast_nonneg i), if_pos (by omega), Int.toNat_natCast]
/-- all stays but the reel and the list at s -/
def Ch (p s : Addr) (H H' : Hp) : Prop := ∀ b o, b ≠ p → b ≠ s → H b = some o → H' b = some o
/-- a good strip of one to 200 cells -/
structure Fit (cs : List (Bool × Int)) : Prop where
  g : GoodCells cs
  lo : 1 ≤ cs.length
  hi : cs.length ≤ 200
section
variable {H H' H1 : Hp} {p s q a : Addr} {n m : Nat} {cs : List (Bool × Int)} {xs : List V}
theorem Ch.lst (c : Ch p s H H') (hp : H p = some (rl n p)) (e : H q = some (.lst xs)) (d : q ≠ s) : H' q = some (.lst xs) := c q _ (ne_of e hp rl_ne_lst.symm) d e
theorem Ch.tup (c : Ch p s H H') (hp : H p = some (rl n p)) (e : H q = some (.tup xs)) (hs : ∃ ys, H s = some (.lst ys)) : H' q = some (.tup xs) := by
  obtain ⟨ys, es⟩ := hs
  exact c q _ (ne_of e hp rl_ne_tup.symm) (ne_of e es (fun z => by cases z)) e
theorem Ch.strip (c : Ch p s H H') (hp : H p = some (rl n p)) (h : Strip H q cs) (d : q ≠ s) (hs : ∃ ys, H s = some (.lst ys)) : Strip H' q cs := by
  obtain ⟨ts, e, dt⟩ := h
  exact ⟨ts, c.lst hp e d, cells_keep dt fun b ys eb => c.tup hp eb hs⟩
theorem Ch.same (c : Ch p s H1 H') (h : Same H H1) (hp : H p = none) (hs : H s = none) : Same H H' := fun b o e => c b o (ne_of_none e hp) (ne_of_none e hs) (h b o e)
end
section
variable {P : Program} {w : World} {K : PySem.W.Frag} {mg : Str → Option Value} {base : Heap}
/-- a cell put in, left out or exchanged -/
def sp_change : Sp := fun vs H Q _ => ∃ (p s : Addr) (cs : List (Bool × Int)) (n : Nat), vs = [.ref p, .ref s] ∧ H p = some (rl n p) ∧ 4 ≤ n ∧ Strip H s cs ∧ Fit cs ∧
  ∀ H' cs', Ch p s H H' → H' p = some (rl (n - 4) p) → Strip H' s cs' → Fit cs' → Q .non H'
theorem ok_change {f : Addr} {fd : FuncData} (o : Own K mg "_law_change" s_law_change ["reel", "strip"] f fd) (T : Txt mg) (C_law_pull : Cal P w K mg base CX0 1 "_law_pull" s_law_pull ["reel", "count"] sp_pull) : Cal P w K mg base CX0 2 "_law_change" s_law_change ["reel", "strip"] sp_change := by
  refine ⟨f, fd, o, ?_⟩
  refine Dok.calm o.F sc_law_change (fun vs H Q E h => ?_) (fun cdv A outer s H vs Q E hr h => ?_)
  · obtain ⟨p, s, cs, n, rfl, _⟩ := h
    rfl
  obtain ⟨p, s, cs, n, rfl, hp, n4, Ss, ⟨hg, lo, hi⟩, k⟩ := h
  have e29 : (2 : Int) ^ 29 = 536870912 := by decide
  refine ⟨_, (pss_cons (ps_set (i := 2) sc_law_change.nd rfl (Or.inl rfl) (pe_tup (pa_cons (pe_cmpR op_eq (c_call C_law_pull (hr.mono (by omega)) pass0 (pa_cons (pv 0) (pa_cons pe_int pa_nil))) pe_int (nomark _)) (pa_cons (c_call C_law_pull (hr.mono (by omega)) pass0 (pa_cons (pv 0) (pa_cons pe_int pa_nil))) pa_nil))))
    (pss_cons (ps_set (i := 3) sc_law_change.nd rfl (Or.inl rfl) (c_call C_law_pull (hr.mono (by omega)) pass0 (pa_cons (pv 0) (pa_cons (pe_callB (kc_len (K := K) rfl) (by rfl) T.len (by decide +kernel) (pa_cons (pv 1) pa_nil)) pa_nil))))
    (pss_cons (ps_set (i := 4) sc_law_change.nd rfl (Or.inl rfl) (c_call C_law_pull (hr.mono (by omega)) pass0 (pa_cons (pv 0) (pa_cons pe_int pa_nil))))
    (pss_one (ps_if (PW.pt (pw_and (pt_cmpR op_lt (pv 4) pe_int (nomark _)) (pw_and1 (pt_cmpR op_lt (pe_callB (kc_len (K := K) rfl) (by rfl) T.len (by decide +kernel) (pa_cons (pv 1) pa_nil)) pe_int (nomark _))))) (pss_one (ps_expr (pe_bm PySem.F.plainAttrs_list PySem.F.slot_list_insert PySem.F.type_list_insert mt_insert (pv 1) (pa_cons (pe_op op_add (pv 3) (pv 4)) (pa_cons (pv 2) pa_nil))))) (pss_one (ps_if (PW.pt (pw_and (pt_cmpR op_eq (pv 4) pe_int (nomark _)) (pw_and1 (pt_cmpR op_gt (pe_callB (kc_len (K := K) rfl) (by rfl) T.len (by decide +kernel) (pa_cons (pv 1) pa_nil)) pe_int (nomark _))))) (pss_one (ps_expr (pe_bm PySem.F.plainAttrs_list PySem.F.slot_list_pop PySem.F.type_list_pop mt_popAt (pv 1) (pa_cons (pv 3) pa_nil)))) (pss_one (ps_asg (pv 2) (pg_sub (pv 1) (pv 3) set_list)))))))))), ?_⟩
  -- cell
  refine ⟨.ref p, rfl, p, 2, n, rfl, hp, by omega, by decide, by decide, fun r1 H1 s1 a1 b1 => ⟨rfl, ?_⟩⟩
  refine ⟨.ref p, rfl, p, 100, n - 1, rfl, s1.b, by omega, by decide, by decide, fun r2 H2 s2 a2 b2 => ⟨(by show 2 ≤ sizeLine; decide), fun t nt => ?_⟩⟩
  have s12 := (s1.trans s2).new (o := .tup [.bl (decide (V.int r1 = V.int 0)), .int r2]) nt
  have et : upd H2 t (.tup [.bl (decide (V.int r1 = V.int 0)), .int r2]) t = some (.tup [.bl (decide (V.int r1 = V.int 0)), .int r2]) := upd_same
  generalize decide (V.int r1 = V.int 0) = bo at s12 et
  generalize upd H2 t (.tup [.bl bo, .int r2]) = H3 at s12 et
  obtain ⟨ts, es, ds⟩ := Ss.sr s12
  have lt : ts.length = cs.length := Strip.len (q := s) ds
  -- at, way
  refine ⟨.ref p, rfl, .ref s, rfl, s, ts, rfl, .inl (SqL.of es), p, _, n - 1 - 1, rfl, s12.b, by omega, by omega, by omega, fun r3 H4 s3 a3 b3 => ?_⟩
  refine ⟨.ref p, rfl, p, 4, n - 1 - 1 - 1, rfl, s3.b, by omega, by decide, by decide, fun r4 H5 s4 a4 b4 => ?_⟩
  have s35 := s3.trans s4
  have s05 := s12.trans s35
  have es5 := s35.lst es
  have ds5 := ds.sr s35
  have et5 := s35.tup et
  have hp5 : H5 p = some (rl (n - 4) p) := by
    have e : n - 4 = n - 1 - 1 - 1 - 1 := by omega
    rw [e]
    exact s05.b
  have ps : p ≠ s := ne_of hp5 es5 rl_ne_lst
  have ts_ : t ≠ s := ne_of et5 es5 (fun z => by cases z)
  -- whatever is written at s
  have fin : ∀ (xs : List V) (cs' : List (Bool × Int)), DtAll H5 xs (cs'.map cellD) → Fit cs' → Q .non (upd H5 s (.lst xs)) := by
    intro xs cs' dx fit
    refine k _ cs' (fun b u d1 d2 e => ?_) (by rw [upd_ne ps]; exact hp5) ⟨xs, upd_same, cells_keep dx fun b ys eb => ?_⟩ fit
    · rw [upd_ne d2]
      exact s05.s b u d1 e
    · rw [upd_ne (ne_of eb es5 (fun z => by cases z))]
      exact eb
  have dc : Dt H5 (.ref t) (cellD (bo, r2)) := .tup et5 (.cons (.bl _) (.cons (.int _) .nil))
  have gc : GoodCells [(bo, r2)] := fun c hc => by
    simp only [List.mem_singleton] at hc
    subst hc
    exact ⟨a2, by show r2 ≤ 99; omega⟩
  obtain ⟨i, rfl⟩ := Int.eq_ofNat_of_zero_le a3
  have hi3 : i < ts.length := by omega
  have ex : ∀ {Q' : Prop}, (Fit (cs.set i (bo, r2)) → DtAll H5 (ts.set i (.ref t)) ((cs.set i (bo, r2)).map cellD) → Q') → Q' := fun f => by
    refine f ⟨fun c hc => ?_, by rw [List.length_set]; exact lo, by rw [List.length_set]; exact hi⟩ (by rw [List.map_set]; exact DtAll.setAt dc i ds5)
    rcases List.mem_or_eq_of_mem_set hc with hc | rfl
    · exact hg c hc
    · exact gc _ (List.mem_singleton.mpr rfl)
  refine ⟨.int r4, rfl, r4, 2, rfl, rfl, _, rfl, ite2 (fun w2 => ?_) (fun w2 => ?_)⟩
  · refine ⟨.ref s, rfl, s, ts, rfl, .inl (SqL.of es5), _, 200, rfl, rfl, _, rfl, ite2 (fun l2 => ?_) (fun l2 => ?_)⟩
    · -- insert
      have hw := of_decide_eq_true w2
      have hl := of_decide_eq_true l2
      obtain ⟨j, rfl⟩ := Int.eq_ofNat_of_zero_le a4
      refine ⟨.ref s, rfl, .inl ⟨rfl, _, SqL.of es5⟩, .int i, rfl, .int j, rfl, _, _, rfl, rfl, .ref t, rfl, s, ts, (i : Int) + (j : Int), .ref t, rfl, rfl, es5, long_ok (by omega), by omega, by omega, ?_⟩
      have ei : ((i : Int) + (j : Int)).toNat = i + j := by omega
      rw [ei]
      refine fin _ (cs.take (i + j) ++ [(bo, r2)] ++ cs.drop (i + j)) ?_ ⟨good_app (good_app (good_take hg _) gc) (good_drop hg _), ?_, ?_⟩
      · rw [List.map_append, List.map_append, List.map_take, List.map_drop]
        exact ((ds5.take _).append (.one dc)).append (ds5.drop _)
      · simp only [List.length_append, List.length_take, List.length_drop, List.length_singleton]
        omega
      · simp only [List.length_append, List.length_take, List.length_drop, List.length_singleton]
        omega
    · have hw := of_decide_eq_true w2
      refine ⟨.int r4, rfl, rfl, false, by rw [decide_eq_false (fun z => by injection z with z; omega)], iteF ?_⟩
      exact ex fun fit dx => ⟨.ref t, rfl, .ref s, rfl, .int i, rfl, s, ts, i, i, rfl, rfl, es5, ixn hi3, fin _ _ dx fit⟩
  · by_cases e2 : r4 = 2
    · subst e2
      refine ⟨.int 2, rfl, rfl, true, by rw [decide_eq_true rfl], iteT ?_⟩
      refine ⟨.ref s, rfl, s, ts, rfl, .inl (SqL.of es5), _, 1, rfl, rfl, _, rfl, ite2 (fun l1 => ?_) (fun l1 => ?_)⟩
      · have hl1 := of_decide_eq_true l1
        refine ⟨.ref s, rfl, .inl ⟨rfl, _, SqL.of es5⟩, .int i, rfl, s, ts, i, i, ts[i], rfl, rfl, es5, by omega, by omega, (ixN_seq (ixn hi3)).1, List.getElem?_eq_getElem hi3, ?_⟩
        rw [List.eraseIdx_eq_take_drop_succ]
        refine fin _ (cs.take i ++ cs.drop (i + 1)) ?_ ⟨good_app (good_take hg _) (good_drop hg _), ?_, ?_⟩
        · rw [List.map_append, List.map_take, List.map_drop]
          exact (ds5.take _).append (ds5.drop _)
        · simp only [List.length_append, List.length_take, List.length_drop]
          omega
        · simp only [List.length_append, List.length_take, List.length_drop]
          omega
      · exact ex fun fit dx => ⟨.ref t, rfl, .ref s, rfl, .int i, rfl, s, ts, i, i, rfl, rfl, es5, ixn hi3, fin _ _ dx fit⟩
    · refine ⟨.int r4, rfl, rfl, false, by rw [decide_eq_false (fun z => by injection z with z; exact e2 z)], iteF ?_⟩
      exact ex fun fit dx => ⟨.ref t, rfl, .ref s, rfl, .int i, rfl, s, ts, i, i, rfl, rfl, es5, ixn hi3, fin _ _ dx fit⟩
end
theorem paired_app {α β : Type} {R : α → β → Prop} : ∀ {a c : List α} {b d : List β}, Paired R a b → Paired R c d → Paired R (a ++ c) (b ++ d)
  | _, _, _, _, .nil, h => h
  | _, _, _, _, .cons x y, h => .cons x (paired_app y h)
/-- a list that was made since H, not l or m, and holds a good strip -/
def Fs (H H' : Hp) (l m : Addr) : V → List (Bool × Int) → Prop := fun v c => ∃ q, v = .ref q ∧ H q = none ∧ q ≠ l ∧ q ≠ m ∧ Strip H' q c ∧ Fit c
structure Al (H : Hp) (p : Addr) (n : Nat) (H' : Hp) (n' : Nat) (l m : Addr) (xs ys : List V) (cx cy : List (List (Bool × Int))) : Prop where
  r : Sr p n n' H H'
  el : H' l = some (.lst xs)
  em : H' m = some (.lst ys)
  nl : H l = none
  nm : H m = none
  lm : l ≠ m
  fx : Paired (Fs H H' l m) xs cx
  fy : Paired (Fs H H' l m) ys cy
section
variable {H H1 H2 : Hp} {p l m q m' : Addr} {n n' k : Nat} {xs ys zs : List V} {cx cy cz : List (List (Bool × Int))} {c : List (Bool × Int)}
theorem Fs.same {v : V} (s : Same H1 H2) (h : Fs H H1 l m v c) : Fs H H2 l m v c := by
  obtain ⟨q, e, a, b, d, S, f⟩ := h
  exact ⟨q, e, a, b, d, S.same s, f⟩
theorem Al.same (a : Al H p n H1 n' l m xs ys cx cy) (s : Same H1 H2) : Al H p n H2 n' l m xs ys cx cy :=
  ⟨a.r.then s, s _ _ a.el, s _ _ a.em, a.nl, a.nm, a.lm, Paired.mapP a.fx fun _ _ h => h.same s, Paired.mapP a.fy fun _ _ h => h.same s⟩
theorem Al.sr (a : Al H p n H1 n' l m xs ys cx cy) (s : Sr p n' k H1 H2) : Al H p n H2 k l m xs ys cx cy :=
  ⟨a.r.trans s, s.lst a.el, s.lst a.em, a.nl, a.nm, a.lm, Paired.mapP a.fx fun _ _ ⟨q, e, b, d, f, S, g⟩ => ⟨q, e, b, d, f, S.sr s, g⟩, Paired.mapP a.fy fun _ _ ⟨q, e, b, d, f, S, g⟩ => ⟨q, e, b, d, f, S.sr s, g⟩⟩
theorem Al.fs (a : Al H p n H1 n' l m xs ys cx cy) (nq : H1 q = none) (S : Strip H2 q c) (f : Fit c) : Fs H H2 l m (.ref q) c :=
  ⟨q, rfl, a.r.free nq, (ne_of_none a.el nq).symm, (ne_of_none a.em nq).symm, S, f⟩
theorem Al.growX (a : Al H p n H1 n' l m xs ys cx cy) (h : Paired (Fs H H1 l m) zs cz) : Al H p n (upd H1 l (.lst (xs ++ zs))) n' l m (xs ++ zs) ys (cx ++ cz) cy := by
  have up : ∀ v c, Fs H H1 l m v c → Fs H (upd H1 l (.lst (xs ++ zs))) l m v c := fun v c ⟨q, e, b, d, f, S, g⟩ => ⟨q, e, b, d, f, S.other a.el d, g⟩
  exact ⟨a.r.mut a.nl, upd_same, by rw [upd_ne a.lm.symm]; exact a.em, a.nl, a.nm, a.lm, paired_app (Paired.mapP a.fx up) (Paired.mapP h up), Paired.mapP a.fy up⟩
theorem Al.growY (a : Al H p n H1 n' l m xs ys cx cy) (h : Paired (Fs H H1 l m) zs cz) : Al H p n (upd H1 m (.lst (ys ++ zs))) n' l m xs (ys ++ zs) cx (cy ++ cz) := by
  have up : ∀ v c, Fs H H1 l m v c → Fs H (upd H1 m (.lst (ys ++ zs))) l m v c := fun v c ⟨q, e, b, d, f, S, g⟩ => ⟨q, e, b, d, f, S.other a.em f, g⟩
  exact ⟨a.r.mut a.nm, by rw [upd_ne a.lm]; exact a.el, upd_same, a.nl, a.nm, a.lm, Paired.mapP a.fx up, paired_app (Paired.mapP a.fy up) (Paired.mapP h up)⟩
theorem Al.newY (a : Al H p n H1 n' l m xs ys cx cy) (h : Paired (Fs H H1 l m) zs cz) (nm' : H1 m' = none) : Al H p n (upd H1 m' (.lst (ys ++ zs))) n' l m' xs (ys ++ zs) cx (cy ++ cz) := by
  have up : ∀ v c, Fs H H1 l m v c → Fs H (upd H1 m' (.lst (ys ++ zs))) l m' v c := fun v c ⟨q, e, b, d, f, S, g⟩ => ⟨q, e, b, d, S.ne_new nm', S.same (same_new nm'), g⟩
  exact ⟨a.r.new nm', (same_new nm') _ _ a.el, upd_same, a.nl, a.r.free nm', ne_of_none a.el nm', Paired.mapP a.fx up, paired_app (Paired.mapP a.fy up) (Paired.mapP h up)⟩
theorem paired_two {α β : Type} {R : α → β → Prop} {a b : α} {c d : β} (h1 : R a c) (h2 : R b d) : Paired R [a, b] [c, d] := .cons h1 (.cons h2 .nil)
theorem paired_len {α β : Type} {R : α → β → Prop} : ∀ {a : List α} {b : List β}, Paired R a b → a.length = b.length
  | _, _, .nil => rfl
  | _, _, .cons _ h => by
    show _ + 1 = _ + 1
    rw [paired_len h]
end
section
variable {P : Program} {w : World} {K : PySem.W.Frag} {mg : Str → Option Value} {base : Heap}
/-- what is told of a strip and another, and what is due -/
def sp_all : Sp := fun vs H Q _ => ∃ (p s o : Addr) (cs co : List (Bool × Int)) (n : Nat), vs = [.ref p, .ref s, .ref o] ∧ H p = some (rl n p) ∧ 1 ≤ n ∧ Strip H s cs ∧ Strip H o co ∧ Fit cs ∧ Fit co ∧
  ∀ t l m xs ys css n' H', n ≤ n' + 1 → H t = none → H' t = some (.tup [.ref l, .ref m]) → Al H p n H' n' l m xs ys css css → 1 ≤ css.length → css.length ≤ 10 → Q (.ref t) H'
theorem ok_all {f : Addr} {fd : FuncData} (o : Own K mg "_law_all" s_law_all ["reel", "strip", "other"] f fd) (T : Txt mg) (C_law_pull : Cal P w K mg base CX0 1 "_law_pull" s_law_pull ["reel", "count"] sp_pull) (C_written : Cal P w K mg base CX0 2 "written" s_written ["strip"] sp_written)
    (C_read : Cal P w K mg base CX0 3 "read" s_read ["text"] sp_read) (C_glued : Cal P w K mg base CX0 1 "glued" s_glued ["one", "other"] sp_glued) (C_parted : Cal P w K mg base CX0 1 "parted" s_parted ["strip", "cell"] sp_parted) (C_turned : Cal P w K mg base CX0 1 "turned" s_turned ["strip"] sp_turned) :
    Cal P w K mg base CX0 4 "_law_all" s_law_all ["reel", "strip", "other"] sp_all := by
  refine ⟨f, fd, o, ?_⟩
  refine Dok.calm o.F sc_law_all (fun vs H Q E h => ?_) (fun cdv A outer s' H vs Q E hr h => ?_)
  · obtain ⟨p, s, o, cs, co, n, rfl, _⟩ := h
    rfl
  obtain ⟨p, s, o, cs, co, n, rfl, hp, n1, ⟨ts, es, ds⟩, ⟨to, eo, do_⟩, fs, fo, k⟩ := h
  have e29 : (2 : Int) ^ 29 = 536870912 := by decide
  have lt : ts.length = cs.length := Strip.len (q := s) ds
  have lo : to.length = co.length := Strip.len (q := o) do_
  have lo1 := fs.lo
  have hi1 := fs.hi
  have lo2 := fo.lo
  have hi2 := fo.hi
  have fr : Fit cs.reverse := ⟨good_rev fs.g, by rw [List.length_reverse]; exact fs.lo, by rw [List.length_reverse]; exact fs.hi⟩
  refine ⟨_, (pss_cons (ps_set (i := 3) sc_law_all.nd rfl (Or.inl rfl) (pe_lst (pa_cons (pe_revL (pv 1)) (pa_cons (pe_callTy call_list_of (by rfl) T.list (by decide +kernel) (pa_cons (pv 1) pa_nil)) pa_nil))))
    (pss_cons (ps_set (i := 4) sc_law_all.nd rfl (Or.inl rfl) (pe_lst (pa_cons (c_call C_turned (hr.mono (by omega)) pass0 (pa_cons (pv 1) pa_nil)) (pa_cons (c_call C_read (hr.mono (by omega)) pass0 (pa_cons (c_call C_written (hr.mono (by omega)) pass0 (pa_cons (pv 1) pa_nil)) pa_nil)) pa_nil))))
    (pss_cons (ps_if (pt_cmpR op_gt (pe_callB (kc_len (K := K) rfl) (by rfl) T.len (by decide +kernel) (pa_cons (pv 1) pa_nil)) pe_int (nomark _)) (pss_cons (ps_set (i := 5) sc_law_all.nd rfl (Or.inl rfl) (c_call C_law_pull (hr.mono (by omega)) pass0 (pa_cons (pv 0) (pa_cons (pe_op op_sub (pe_callB (kc_len (K := K) rfl) (by rfl) T.len (by decide +kernel) (pa_cons (pv 1) pa_nil)) pe_int) pa_nil))))
    (pss_cons (ps_expr (pe_bm PySem.F.plainAttrs_list PySem.F.slot_list_extend PySem.F.type_list_extend mt_extendT (pv 4) (pa_cons (c_call C_parted (hr.mono (by omega)) pass0 (pa_cons (pv 1) (pa_cons (pv 5) pa_nil))) pa_nil)))
    (pss_one (ps_set (i := 3) sc_law_all.nd rfl (Or.inl rfl) (pe_op op_cat (pv 3) (pe_lst (pa_cons (pe_slice (k_slL (K := K) rfl) (pv 1) po_none (po_some (pe_op op_add (pv 5) pe_int))) (pa_cons (pe_slice (k_slL (K := K) rfl) (pv 1) (po_some (pe_op op_add (pv 5) pe_int)) po_none) pa_nil)))))))) pss_nil)
    (pss_cons (ps_if (pt_cmpR op_lt (pe_callB (kc_len (K := K) rfl) (by rfl) T.len (by decide +kernel) (pa_cons (pv 1) pa_nil)) pe_int (nomark _)) (pss_cons (ps_expr (pe_bm PySem.F.plainAttrs_list PySem.F.slot_list_append PySem.F.type_list_append mt_append (pv 4) (pa_cons (c_call C_glued (hr.mono (by omega)) pass0 (pa_cons (pv 1) (pa_cons (pv 1) pa_nil))) pa_nil)))
    (pss_one (ps_expr (pe_bm PySem.F.plainAttrs_list PySem.F.slot_list_append PySem.F.type_list_append mt_append (pv 3) (pa_cons (pe_op op_cat (pv 1) (pv 1)) pa_nil))))) pss_nil)
    (pss_cons (ps_if (pt_cmpR op_lt (pe_op op_add (pe_callB (kc_len (K := K) rfl) (by rfl) T.len (by decide +kernel) (pa_cons (pv 1) pa_nil)) (pe_callB (kc_len (K := K) rfl) (by rfl) T.len (by decide +kernel) (pa_cons (pv 2) pa_nil))) pe_int (nomark _)) (pss_cons (ps_expr (pe_bm PySem.F.plainAttrs_list PySem.F.slot_list_extend PySem.F.type_list_extend mt_extend (pv 4) (pa_cons (pe_lst (pa_cons (c_call C_glued (hr.mono (by omega)) pass0 (pa_cons (pv 1) (pa_cons (pv 2) pa_nil))) (pa_cons (c_call C_glued (hr.mono (by omega)) pass0 (pa_cons (pv 2) (pa_cons (pv 1) pa_nil))) pa_nil))) pa_nil)))
    (pss_one (ps_set (i := 3) sc_law_all.nd rfl (Or.inl rfl) (pe_op op_cat (pv 3) (pe_lst (pa_cons (pe_op op_cat (pv 1) (pv 2)) (pa_cons (pe_op op_cat (pv 2) (pv 1)) pa_nil))))))) pss_nil)
    (pss_one (ps_ret (pe_tup (pa_cons (pv 4) (pa_cons (pv 3) pa_nil)))))))))), ?_⟩
  -- due
  refine ⟨.ref s, rfl, s, ts, rfl, SqL.of es, fun d1 nd1 => ?_⟩
  have s1 := same_new (o := .lst ts.reverse) nd1
  refine ⟨.ref s, rfl, s, ts, rfl, .inl (SqL.of (s1 _ _ es)), fun d2 nd2 => ⟨(by show 2 ≤ sizeLine; decide), fun m nm => ?_⟩⟩
  have s2 := same_new (o := .lst ts) nd2
  have s3 := same_new (o := .lst [.ref d1, .ref d2]) nm
  have s03 := (s1.trans s2).trans s3
  -- told
  refine ⟨.ref s, rfl, s, ts, rfl, s03 _ _ es, fun t1 H4 nt1 s4 et1 => ?_⟩
  have s04 := s03.trans s4
  refine ⟨.ref s, rfl, s, cs, rfl, ⟨ts, s04 _ _ es, ds.same s04⟩, fs.g, by omega, fun H5 s5 => ?_⟩
  refine ⟨cs, rfl, fs.g, fs.lo, fs.hi, fun t2 H6 nt2 s6 St2 => ⟨(by show 2 ≤ sizeLine; decide), fun l nl => ?_⟩⟩
  have s7 := same_new (o := .lst [.ref t1, .ref t2]) nl
  have s47 := s5.trans (s6.trans s7)
  have s37 := s4.trans s47
  have s07 := s03.trans s37
  have dR : ∀ {H' : Hp}, Same H H' → DtAll H' ts.reverse (cs.reverse.map cellD) := fun s => by
    rw [List.map_reverse]
    exact (ds.same s).reverse
  have nd2H : H d2 = none := s1.free nd2
  have nmH : H m = none := (s1.trans s2).free nm
  have nt1H : H t1 = none := s03.free nt1
  have nt2H : H t2 = none := (s04.trans s5).free nt2
  have nlH : H l = none := (s04.trans (s5.trans s6)).free nl
  have em7 : upd H6 l (.lst [.ref t1, .ref t2]) m = some (.lst [.ref d1, .ref d2]) := s37 _ _ upd_same
  have A0 : Al H p n (upd H6 l (.lst [.ref t1, .ref t2])) n l m [.ref t1, .ref t2] [.ref d1, .ref d2] [cs.reverse, cs] [cs.reverse, cs] := by
    refine ⟨.of s07 hp, upd_same, em7, nlH, nmH, (ne_of_none ((s4.trans (s5.trans s6)) _ _ upd_same) nl).symm, paired_two ?_ ?_, paired_two ?_ ?_⟩
    · exact ⟨t1, rfl, nt1H, ne_of_none ((s5.trans s6) _ _ et1) nl, (ne_of_none upd_same nt1).symm, .of (s47 _ _ et1) (dR s07), fr⟩
    · exact ⟨t2, rfl, nt2H, St2.ne_new nl, (ne_of_none ((s4.trans s5) _ _ upd_same) nt2).symm, St2.same s7, fs⟩
    · exact ⟨d1, rfl, nd1, ne_of_none ((s2.trans (s3.trans (s4.trans (s5.trans s6)))) _ _ upd_same) nl, ne_of_none (s2 _ _ upd_same) nm, .of ((s2.trans (s3.trans s37)) _ _ upd_same) (dR s07), fr⟩
    · exact ⟨d2, rfl, nd2H, ne_of_none ((s3.trans (s4.trans (s5.trans s6))) _ _ upd_same) nl, ne_of_none upd_same nm, .of ((s3.trans s37) _ _ upd_same) (ds.same s07), fs⟩
  generalize upd H6 l (.lst [.ref t1, .ref t2]) = H7 at A0
  clear em7 s7 s47 s37 s07 nt2H nlH St2 s5 s6 nl et1 nt1H s4 s04 nmH nm s3 s03 nd2H s2 s1
  -- the strips themselves stay
  have keep : ∀ {H' : Hp} {n' : Nat} {l m : Addr} {xs ys : List V} {cx cy : List (List (Bool × Int))}, Al H p n H' n' l m xs ys cx cy → H' s = some (.lst ts) ∧ DtAll H' ts (cs.map cellD) ∧ H' o = some (.lst to) ∧ DtAll H' to (co.map cellD) :=
    fun a => ⟨a.r.lst es, ds.sr a.r, a.r.lst eo, do_.sr a.r⟩
  -- if len(strip) > 1
  dsimp only [gName, tSeq]
  refine with_nx (t := tIfS _ _ _) (fun σ H' => ∃ (v5 : Option V) (m : Addr) (xs ys : List V) (css : List (List (Bool × Int))) (n' : Nat), σ = [some (.ref p), some (.ref s), some (.ref o), some (.ref m), some (.ref l), v5] ∧ Al H p n H' n' l m xs ys css css ∧ n ≤ n' + 1 ∧ 2 ≤ css.length ∧ css.length ≤ 4) ?_ (fun rest => ?_)
  · rintro σ H8 ⟨v5, m, xs, ys, css, n', rfl, A, hn, c2, c4⟩
    clear A0 nd1
    obtain ⟨a1, a2, a3, a4⟩ := keep A
    -- if len(strip) < 101
    dsimp only [tSeq]
    refine with_nx (t := tIfS _ _ _) (fun σ H' => ∃ (xs ys : List V) (css : List (List (Bool × Int))), σ = [some (.ref p), some (.ref s), some (.ref o), some (.ref m), some (.ref l), v5] ∧ Al H p n H' n' l m xs ys css css ∧ 2 ≤ css.length ∧ css.length ≤ 5) ?_ (fun rest => ?_)
    · rintro σ H9 ⟨xs, ys, css, rfl, A, c2, c4⟩
      obtain ⟨a1, a2, a3, a4⟩ := keep A
      -- if len(strip) + len(other) < 201
      dsimp only [tSeq]
      refine with_nx (t := tIfS _ _ _) (fun σ H' => ∃ (m : Addr) (xs ys : List V) (css : List (List (Bool × Int))), σ = [some (.ref p), some (.ref s), some (.ref o), some (.ref m), some (.ref l), v5] ∧ Al H p n H' n' l m xs ys css css ∧ 2 ≤ css.length ∧ css.length ≤ 7) ?_ (fun rest => ?_)
      · rintro σ H10 ⟨m, xs, ys, css, rfl, A, c2, c4⟩
        refine ⟨.ref l, rfl, .ref m, rfl, (by show 2 ≤ sizeLine; decide), fun t nt => ?_⟩
        exact k t l m xs ys css n' _ hn (A.r.free nt) upd_same (A.same (same_new nt)) (by omega) (by omega)
      · refine ⟨.ref s, rfl, s, ts, rfl, .inl (SqL.of a1), .ref o, rfl, o, to, rfl, .inl (SqL.of a3), _, _, rfl, rfl, _, 201, rfl, rfl, _, rfl, ite2 (fun c1 => ?_) (fun _ => rest _ _ ⟨m, _, _, _, rfl, A, c2, by omega⟩)⟩
        have hc := of_decide_eq_true c1
        have lx := paired_len A.fx
        have ly := paired_len A.fy
        have fso : Fit (cs ++ co) := ⟨good_app fs.g fo.g, by rw [List.length_append]; omega, by rw [List.length_append]; omega⟩
        have fos : Fit (co ++ cs) := ⟨good_app fo.g fs.g, by rw [List.length_append]; omega, by rw [List.length_append]; omega⟩
        -- told.extend([glued(strip, other), glued(other, strip)])
        refine ⟨.ref l, rfl, .inl ⟨rfl, _, SqL.of A.el⟩, ?_⟩
        refine ⟨.ref s, rfl, .ref o, rfl, s, o, ts, to, rfl, a1, a3, by omega, fun g1 H10 ng1 s1 e1 => ?_⟩
        have A1 := A.same s1
        obtain ⟨b1, b2, b3, b4⟩ := keep A1
        refine ⟨.ref o, rfl, .ref s, rfl, o, s, to, ts, rfl, b3, b1, by omega, fun g2 H11 ng2 s2 e2 => ⟨(by show 2 ≤ sizeLine; decide), fun u nu => ?_⟩⟩
        have s3 := same_new (o := .lst [.ref g1, .ref g2]) nu
        have A2 := A1.same (s2.trans s3)
        obtain ⟨d1, d2, d3, d4⟩ := keep A2
        refine ⟨l, u, _, _, rfl, rfl, A2.el, upd_same, ?_, ?_⟩
        · show xs.length + 2 ≤ sizeLine
          exact Nat.le_of_lt (long_ok (by omega))
        have A3 := A2.growX (paired_two (A.fs ng1 (.app ((s2.trans s3) _ _ e1) d2 d4) fso) (A1.fs ng2 (.app (s3 _ _ e2) d4 d2) fos))
        obtain ⟨f1, f2, f3, f4⟩ := keep A3
        -- due = due + [strip + other, other + strip]
        refine ⟨.ref m, rfl, .ref s, rfl, .ref o, rfl, s, o, ts, to, rfl, rfl, f1, f3, Nat.le_of_lt (long_ok (by omega)), fun y1 ny1 => ?_⟩
        have A4 := A3.same (same_new (o := .lst (ts ++ to)) ny1)
        obtain ⟨h1, h2, h3, h4⟩ := keep A4
        refine ⟨.ref o, rfl, .ref s, rfl, o, s, to, ts, rfl, rfl, h3, h1, Nat.le_of_lt (long_ok (by omega)), fun y2 ny2 => ⟨(by show 2 ≤ sizeLine; decide), fun u2 nu2 => ?_⟩⟩
        have s10 := same_new (o := .lst (to ++ ts)) ny2
        have s11 := same_new (o := .lst [.ref y1, .ref y2]) nu2
        have A5 := A4.same (s10.trans s11)
        obtain ⟨i1, i2, i3, i4⟩ := keep A5
        refine ⟨m, u2, _, _, rfl, rfl, A5.em, upd_same, ?_, fun m' nm' => ?_⟩
        · show ys.length + 2 ≤ sizeLine
          exact Nat.le_of_lt (long_ok (by omega))
        have ey1 := (s10.trans s11) y1 _ upd_same
        have ey2 := s11 y2 _ upd_same
        have A6 := A5.newY (paired_two (A3.fs ny1 (.app ey1 i2 i4) fso) (A4.fs ny2 (.app ey2 i4 i2) fos)) nm'
        exact rest _ _ ⟨m', _, _, _, rfl, A6, by rw [List.length_append]; omega, by rw [List.length_append]; show css.length + 2 ≤ 7; omega⟩
    · refine ⟨.ref s, rfl, s, ts, rfl, .inl (SqL.of a1), _, 101, rfl, rfl, _, rfl, ite2 (fun c1 => ?_) (fun _ => rest _ _ ⟨_, _, _, rfl, A, c2, by omega⟩)⟩
      have hc := of_decide_eq_true c1
      have lx := paired_len A.fx
      have ly := paired_len A.fy
      have fss : Fit (cs ++ cs) := ⟨good_app fs.g fs.g, by rw [List.length_append]; omega, by rw [List.length_append]; omega⟩
      -- told.append(glued(strip, strip))
      refine ⟨.ref l, rfl, .inl ⟨rfl, _, SqL.of A.el⟩, ?_⟩
      refine ⟨.ref s, rfl, .ref s, rfl, s, s, ts, ts, rfl, a1, a1, by omega, fun g1 H10 ng1 s1 e1 => ?_⟩
      have A1 := A.same s1
      obtain ⟨b1, b2, b3, b4⟩ := keep A1
      refine ⟨l, _, _, rfl, rfl, A1.el, long_ok (by omega), ?_⟩
      have A2 := A1.growX (.cons (A.fs ng1 (.app e1 b2 b2) fss) .nil)
      obtain ⟨d1, d2, d3, d4⟩ := keep A2
      -- due.append(strip + strip)
      refine ⟨.ref m, rfl, .inl ⟨rfl, _, SqL.of A2.em⟩, .ref s, rfl, .ref s, rfl, s, s, ts, ts, rfl, rfl, d1, d1, Nat.le_of_lt (long_ok (by omega)), fun y1 ny1 => ?_⟩
      have A3 := A2.same (same_new (o := .lst (ts ++ ts)) ny1)
      obtain ⟨f1, f2, f3, f4⟩ := keep A3
      refine ⟨m, _, _, rfl, rfl, A3.em, long_ok (by omega), ?_⟩
      have A4 := A3.growY (.cons (A2.fs ny1 (.app upd_same f2 f2) fss) .nil)
      exact rest _ _ ⟨_, _, _, rfl, A4, by rw [List.length_append]; omega, by rw [List.length_append]; show css.length + 1 ≤ 5; omega⟩
  · obtain ⟨a1, a2, a3, a4⟩ := keep A0
    refine ⟨.ref s, rfl, s, ts, rfl, .inl (SqL.of a1), _, 1, rfl, rfl, _, rfl, ite2 (fun c1 => ?_) (fun _ => rest _ _ ⟨_, m, _, _, _, n, rfl, A0, by omega, by show 2 ≤ 2; decide, by show 2 ≤ 4; decide⟩)⟩
    have hc := of_decide_eq_true c1
    -- cell
    refine ⟨.ref p, rfl, .ref s, rfl, s, ts, rfl, .inl (SqL.of a1), _, 1, rfl, rfl, p, _, n, rfl, A0.r.b, n1, by omega, by omega, fun r H8 s8 r0 r1 => ?_⟩
    obtain ⟨c, rfl⟩ := Int.eq_ofNat_of_zero_le r0
    have A1 := A0.sr s8
    obtain ⟨b1, b2, b3, b4⟩ := keep A1
    -- told.extend(parted(strip, cell))
    refine ⟨.ref l, rfl, .inl ⟨rfl, _, SqL.of A1.el⟩, .ref s, rfl, .int c, rfl, s, ts, c, rfl, b1, by omega, fun q1 q2 t H9 nq1 nq2 nt q12 s9 e1 e2 et => ?_⟩
    have A2 := A1.same s9
    obtain ⟨c1', c2', c3', c4'⟩ := keep A2
    have f1 : Fit (cs.take (c + 1)) := ⟨good_take fs.g _, by rw [List.length_take]; omega, by rw [List.length_take]; omega⟩
    have f2 : Fit (cs.drop (c + 1)) := ⟨good_drop fs.g _, by rw [List.length_drop]; omega, by rw [List.length_drop]; omega⟩
    have D1 : DtAll H9 (ts.take (c + 1)) ((cs.take (c + 1)).map cellD) := by rw [List.map_take]; exact c2'.take _
    have D2 : DtAll H9 (ts.drop (c + 1)) ((cs.drop (c + 1)).map cellD) := by rw [List.map_drop]; exact c2'.drop _
    refine ⟨l, t, _, _, rfl, rfl, A2.el, SqT.of et, by show 2 + 2 ≤ sizeLine; decide, ?_⟩
    have A3 := A2.growX (paired_two (A1.fs nq1 (.of e1 D1) f1) (A1.fs nq2 (.of e2 D2) f2))
    obtain ⟨g1, g2, g3, g4⟩ := keep A3
    -- due = due + [strip[:cell + 1], strip[cell + 1:]]
    have ec : (some ((c : Int) + 1)) = some ((c + 1 : Nat) : Int) := by rw [Int.natCast_add]; rfl
    refine ⟨.ref m, rfl, .ref s, rfl, .int c, rfl, c, 1, rfl, rfl, _, rfl, s, ts, rfl, SqL.of g1, fun y1 ny1 => ?_⟩
    have A4 := A3.same (same_new (o := .lst (cutV ts none (some ((c : Int) + 1)))) ny1)
    obtain ⟨h1, h2, h3, h4⟩ := keep A4
    refine ⟨.ref s, rfl, .int c, rfl, c, 1, rfl, rfl, _, rfl, s, ts, rfl, SqL.of h1, fun y2 ny2 => ⟨(by show 2 ≤ sizeLine; decide), fun u nu => ?_⟩⟩
    have s10 := same_new (o := .lst (cutV ts (some ((c : Int) + 1)) none)) ny2
    have s11 := same_new (o := .lst [.ref y1, .ref y2]) nu
    have A5 := A4.same (s10.trans s11)
    obtain ⟨i1, i2, i3, i4⟩ := keep A5
    refine ⟨m, u, _, _, rfl, rfl, A5.em, upd_same, by show 2 + 2 ≤ sizeLine; decide, fun m' nm' => ?_⟩
    have D3 := (i2.take (c + 1))
    rw [← List.map_take] at D3
    have D4 := (i2.drop (c + 1))
    rw [← List.map_drop] at D4
    have w1 : cutV ts none (some ((c : Int) + 1)) = ts.take (c + 1) := by rw [ec, cut_to]
    have w2 : cutV ts (some ((c : Int) + 1)) none = ts.drop (c + 1) := by rw [ec, cut_from]
    have ey1 := ((s10.trans s11) y1 _ upd_same).trans (congrArg (fun l => some (HO.lst l)) w1)
    have ey2 := (s11 y2 _ upd_same).trans (congrArg (fun l => some (HO.lst l)) w2)
    have A6 := A5.newY (paired_two (A3.fs ny1 (.of ey1 D3) f1) (A4.fs ny2 (.of ey2 D4) f2)) nm'
    exact rest _ _ ⟨_, m', _, _, _, n - 1, rfl, A6, by omega, by show 2 ≤ 4; decide, by show 4 ≤ 4; decide⟩
end
theorem cut_last {xs : List V} {v : V} : cutV (xs ++ [v]) none (some (-1)) = xs := by
  have e : HT.sIx (xs ++ [v]).length (xs ++ [v]).length (some (-1)) = xs.length := by
    show (if (-1 : Int) < 0 then ((-1 : Int) + ((xs ++ [v]).length : Int)).toNat else min (-1 : Int).toNat (xs ++ [v]).length) = xs.length
    rw [if_pos (by decide), List.length_append, List.length_singleton]
    omega
  unfold cutV
  rw [e, HT.sIx_none, Nat.sub_zero, List.drop_zero, List.take_left' rfl]
/-- what was told and is due, past; it leans on no list that may yet be changed -/
def Pk (st ot pa : Addr) (H' : Hp) (v : V) : Prop := ∃ A, Dt (del (del (del H' st) ot) pa) v (.tuple [.list A, .list A]) ∧ shp 4 (.tuple [.list A, .list A])
def Mv (p st ot pa : Addr) (H H' : Hp) : Prop := ∀ b o, b ≠ p → b ≠ st → b ≠ ot → b ≠ pa → H b = some o → H' b = some o
structure Iv (H : Hp) (p st ot pa : Addr) (n : Nat) (H' : Hp) (cs co : List (Bool × Int)) (ps : List V) : Prop where
  sm : Same H H'
  zp : H p = none
  zs : H st = none
  zo : H ot = none
  za : H pa = none
  hp : H' p = some (rl n p)
  S1 : Strip H' st cs
  S2 : Strip H' ot co
  f1 : Fit cs
  f2 : Fit co
  ep : H' pa = some (.lst ps)
  po : ∀ v ∈ ps, Pk st ot pa H' v
  d12 : st ≠ ot
  d1p : st ≠ pa
  d2p : ot ≠ pa
section
variable {H H1 H2 H3 : Hp} {p st ot pa pa' q s : Addr} {n m : Nat} {cs co cs' co' : List (Bool × Int)} {ps ps' xs : List V} {v : V} {o : HO}
theorem del3 {b : Addr} (h : del (del (del H1 st) ot) pa b = some o) : b ≠ st ∧ b ≠ ot ∧ b ≠ pa ∧ H1 b = some o := by
  by_cases e3 : b = pa
  · subst e3
    rw [del_at] at h
    cases h
  · rw [del_ne e3] at h
    by_cases e2 : b = ot
    · subst e2
      rw [del_at] at h
      cases h
    · rw [del_ne e2] at h
      by_cases e1 : b = st
      · subst e1
        rw [del_at] at h
        cases h
      · rw [del_ne e1] at h
        exact ⟨e1, e2, e3, h⟩
theorem del3i {b : Addr} (h1 : b ≠ st) (h2 : b ≠ ot) (h3 : b ≠ pa) (h : H1 b = some o) : del (del (del H1 st) ot) pa b = some o := by
  rw [del_ne h3, del_ne h2, del_ne h1]
  exact h
theorem Pk.go (h : Pk st ot pa H1 v) (mv : Mv p st ot pa H1 H2) (hp : H1 p = some (rl n p)) : Pk st ot pa H2 v := by
  obtain ⟨A, d, s⟩ := h
  refine ⟨A, d.keep (fun b xs e => ?_) (fun b xs e => ?_), s⟩
  · obtain ⟨a, b', c, e'⟩ := del3 e
    exact del3i a b' c (mv b _ (ne_of e' hp rl_ne_lst.symm) a b' c e')
  · obtain ⟨a, b', c, e'⟩ := del3 e
    exact del3i a b' c (mv b _ (ne_of e' hp rl_ne_tup.symm) a b' c e')
theorem Pk.swap (h : Pk st ot pa H1 v) (z : H1 pa' = none) (s : Same H1 H2) : Pk st ot pa' H2 v := by
  obtain ⟨A, d, sh⟩ := h
  refine ⟨A, d.keep (fun b xs e => ?_) (fun b xs e => ?_), sh⟩
  · obtain ⟨a, b', c, e'⟩ := del3 e
    exact del3i a b' (ne_of_none e' z) (s _ _ e')
  · obtain ⟨a, b', c, e'⟩ := del3 e
    exact del3i a b' (ne_of_none e' z) (s _ _ e')
theorem Mv.of (s : Same H1 H2) : Mv p st ot pa H1 H2 := fun b o _ _ _ _ e => s b o e
theorem Mv.sr (s : Sr p n m H1 H2) : Mv p st ot pa H1 H2 := fun b o d _ _ _ e => s.s b o d e
theorem Mv.trans (a : Mv p st ot pa H1 H2) (b : Mv p st ot pa H2 H3) : Mv p st ot pa H1 H3 := fun c o d1 d2 d3 d4 e => b c o d1 d2 d3 d4 (a c o d1 d2 d3 d4 e)
theorem Mv.push : Mv p st ot pa H1 (upd H1 pa o) := fun b u _ _ _ d e => by
  rw [upd_ne d]
  exact e
theorem Mv.ch1 (c : Ch p st H1 H2) : Mv p st ot pa H1 H2 := fun b o d1 d2 _ _ e => c b o d1 d2 e
theorem Mv.ch2 (c : Ch p ot H1 H2) : Mv p st ot pa H1 H2 := fun b o d1 _ d3 _ e => c b o d1 d3 e
theorem Mv.chN (a : Mv p st ot pa H1 H2) (c : Ch p s H2 H3) (z : H1 s = none) : Mv p st ot pa H1 H3 := fun b o d1 d2 d3 d4 e => c b o d1 (ne_of_none e z) (a b o d1 d2 d3 d4 e)
theorem Mv.upN (a : Mv p st ot pa H1 H2) (z : H1 s = none) : Mv p st ot pa H1 (upd H2 s o) := fun b u d1 d2 d3 d4 e => by
  rw [upd_ne (ne_of_none e z)]
  exact a b u d1 d2 d3 d4 e
theorem Iv.go (i : Iv H p st ot pa n H1 cs co ps) (mv : Mv p st ot pa H1 H2) (hp : H2 p = some (rl m p)) (S1 : Strip H2 st cs') (S2 : Strip H2 ot co') (f1 : Fit cs') (f2 : Fit co') (ep : H2 pa = some (.lst ps')) (new : ∀ v ∈ ps', v ∈ ps ∨ Pk st ot pa H2 v) :
    Iv H p st ot pa m H2 cs' co' ps' :=
  ⟨fun b o e => mv b o (ne_of_none e i.zp) (ne_of_none e i.zs) (ne_of_none e i.zo) (ne_of_none e i.za) (i.sm b o e), i.zp, i.zs, i.zo, i.za, hp, S1, S2, f1, f2, ep, fun v hv => (new v hv).elim (fun h => (i.po v h).go mv i.hp) fun h => h, i.d12, i.d1p, i.d2p⟩
theorem Iv.same (i : Iv H p st ot pa n H1 cs co ps) (s : Same H1 H2) : Iv H p st ot pa n H2 cs co ps :=
  i.go (.of s) (s _ _ i.hp) (i.S1.same s) (i.S2.same s) i.f1 i.f2 (s _ _ i.ep) fun v h => .inl h
theorem Iv.sr (i : Iv H p st ot pa n H1 cs co ps) (s : Sr p n m H1 H2) : Iv H p st ot pa m H2 cs co ps :=
  i.go (.sr s) s.b (i.S1.sr s) (i.S2.sr s) i.f1 i.f2 (s.lst i.ep) fun v h => .inl h
theorem Strip.ex (h : Strip H1 q cs) : ∃ ys, H1 q = some (.lst ys) := ⟨_, h.choose_spec.1⟩
theorem Iv.ch1 (i : Iv H p st ot pa n H1 cs co ps) (c : Ch p st H1 H2) (hp : H2 p = some (rl m p)) (S : Strip H2 st cs') (f : Fit cs') : Iv H p st ot pa m H2 cs' co ps :=
  i.go (.ch1 c) hp S (c.strip i.hp i.S2 i.d12.symm i.S1.ex) f i.f2 (c.lst i.hp i.ep i.d1p.symm) fun v h => .inl h
theorem Iv.ch2 (i : Iv H p st ot pa n H1 cs co ps) (c : Ch p ot H1 H2) (hp : H2 p = some (rl m p)) (S : Strip H2 ot co') (f : Fit co') : Iv H p st ot pa m H2 cs co' ps :=
  i.go (.ch2 c) hp (c.strip i.hp i.S1 i.d12 i.S2.ex) S i.f1 f (c.lst i.hp i.ep i.d2p.symm) fun v h => .inl h
/-- something more is past -/
theorem Iv.push (i : Iv H p st ot pa n H1 cs co ps) (h : Pk st ot pa H1 v) : Iv H p st ot pa n (upd H1 pa (.lst (ps ++ [v]))) cs co (ps ++ [v]) := by
  refine i.go .push (by rw [upd_ne (ne_of i.hp i.ep rl_ne_lst)]; exact i.hp) (i.S1.other i.ep i.d1p) (i.S2.other i.ep i.d2p) i.f1 i.f2 upd_same fun x hx => ?_
  rcases List.mem_append.mp hx with hx | hx
  · exact .inl hx
  · simp only [List.mem_singleton] at hx
    subst hx
    exact .inr (h.go .push i.hp)
theorem Iv.swap (i : Iv H p st ot pa n H1 cs co ps) (z : H1 pa' = none) (h : ∀ v ∈ ps', v ∈ ps) : Iv H p st ot pa' n (upd H1 pa' (.lst ps')) cs co ps' := by
  have s := same_new (o := .lst ps') z
  have ns : ∀ {q x}, Strip H1 q x → q ≠ pa' := fun S => S.ne_new z
  exact ⟨i.sm.trans s, i.zp, i.zs, i.zo, i.sm.free z, s _ _ i.hp, i.S1.same s, i.S2.same s, i.f1, i.f2, upd_same, fun v hv => (i.po v (h v hv)).swap z s, i.d12, ns i.S1, ns i.S2⟩
/-- told and due lists that were made since, as a new pair -/
theorem Al.pk {l m' t : Addr} {k : Nat} {ys : List V} {css : List (List (Bool × Int))} (a : Al H1 p n H2 k l m' xs ys css css) (s : Same H2 H3) (h1 : ∃ z, H1 st = some (.lst z)) (h2 : ∃ z, H1 ot = some (.lst z)) (h3 : ∃ z, H1 pa = some (.lst z)) (nt : H1 t = none) (et : H3 t = some (.tup [.ref l, .ref m'])) :
    Pk st ot pa H3 (.ref t) := by
  obtain ⟨z1, h1⟩ := h1
  obtain ⟨z2, h2⟩ := h2
  obtain ⟨z3, h3⟩ := h3
  have fresh : ∀ {q : Addr} {o : HO}, H1 q = none → H3 q = some o → del (del (del H3 st) ot) pa q = some o := fun nq e => del3i (ne_of_none h1 nq).symm (ne_of_none h2 nq).symm (ne_of_none h3 nq).symm e
  have tups : ∀ {q : Addr} {ys : List V}, H3 q = some (.tup ys) → del (del (del H3 st) ot) pa q = some (.tup ys) := fun {q ys} e => by
    have no : ∀ {b : Addr} {z : List V}, H1 b = some (.lst z) → H3 b = some (.lst z) := fun e => s _ _ (a.r.lst e)
    exact del3i (ne_of e (no h1) (fun z => by cases z)) (ne_of e (no h2) (fun z => by cases z)) (ne_of e (no h3) (fun z => by cases z)) e
  have all : ∀ {vs : List V} {css : List (List (Bool × Int))}, Paired (Fs H1 H2 l m') vs css → DtAll (del (del (del H3 st) ot) pa) vs (css.map stripD) := by
    intro vs css h
    induction h with
    | nil => exact .nil
    | cons x _ ih =>
      obtain ⟨q, rfl, nq, _, _, S, _⟩ := x
      obtain ⟨ts, e, d⟩ := S.same s
      exact .cons (.lst (fresh nq e) (cells_keep d fun b ys e => tups e)) ih
  refine ⟨css.map stripD, .tup (fresh nt et) (.cons (.lst (fresh a.nl (s _ _ a.el)) (all a.fx)) (.one (.lst (fresh a.nm (s _ _ a.em)) (all a.fy)))), shp_tup fun d hd => ?_⟩
  simp only [List.mem_cons, List.not_mem_nil, or_false] at hd
  have one : shp 3 (.list (css.map stripD)) := shp_list fun d hd => by
    obtain ⟨c, _, rfl⟩ := List.mem_map.mp hd
    exact shp_strip c
  rcases hd with rfl | rfl <;> exact one
theorem paired_mem {α β : Type} {R : α → β → Prop} : ∀ {a : List α} {b : List β} {x : α}, Paired R a b → x ∈ a → ∃ y, R x y
  | _, _, _, .nil, h => by cases h
  | _, _, x, .cons r t, h => by
    rcases List.mem_cons.mp h with rfl | h
    · exact ⟨_, r⟩
    · exact paired_mem t h
end
section
variable {P : Program} {w : World} {K : PySem.W.Frag} {mg : Str → Option Value} {base : Heap}
def sp_law (K : PySem.W.Frag) : Sp := fun vs H Q _ => ∃ (a : Addr) (ns : List Int), vs = [.ref a] ∧ SqL K H a (ns.map V.int) ∧ ns.length ≤ 63 ∧ ∀ H', Q (.bl true) H'
theorem ok_law {f : Addr} {fd : FuncData} (o : Own K mg "law" s_law ["script"] f fd) (T : Txt mg) (C_law_reel : Cal P w K mg base CX0 1 "_law_reel" s_law_reel ["script", "k"] (sp_reel K)) (C_law_pull : Cal P w K mg base CX0 1 "_law_pull" s_law_pull ["reel", "count"] sp_pull)
    (C_law_size : Cal P w K mg base CX0 2 "_law_size" s_law_size ["reel", "most"] sp_size) (C_law_strip : Cal P w K mg base CX0 2 "_law_strip" s_law_strip ["reel", "size"] sp_strip) (C_written : Cal P w K mg base CX0 2 "written" s_written ["strip"] sp_written)
    (C_law_text : Cal P w K mg base CX0 1 "_law_text" s_law_text ["strip"] sp_written) (C_turned : Cal P w K mg base CX0 1 "turned" s_turned ["strip"] sp_turned) (C_law_all : Cal P w K mg base CX0 4 "_law_all" s_law_all ["reel", "strip", "other"] sp_all)
    (C_law_change : Cal P w K mg base CX0 2 "_law_change" s_law_change ["reel", "strip"] sp_change) : Dok P w K mg base CX0 5 f fd ["script"] (sp_law K) := by
  refine Dok.calm o.F sc_law (fun vs H Q E h => ?_) (fun cdv A outer s H vs Q E hr h => ?_)
  · obtain ⟨a, ns, rfl, _⟩ := h
    rfl
  obtain ⟨a, ns, rfl, hS, hl, k⟩ := h
  refine ⟨_, (pss_cons (ps_for PassesOwn.never rfl (pi_range1 rfl T.range (pa_cons (pe_callB (call_max2 rfl) (by rfl) T.max (by decide +kernel) (pa_cons pe_int (pa_cons (pe_callB (call_min2 rfl) (by rfl) T.min (by decide +kernel) (pa_cons pe_int (pa_cons (pe_callB (kc_len (K := K) rfl) (by rfl) T.len (by decide +kernel) (pa_cons (pv 0) pa_nil)) pa_nil))) pa_nil))) pa_nil)) (pg_name (i := 1) sc_law.nd rfl (Or.inl rfl)) (pss_cons (ps_set (i := 2) sc_law.nd rfl (Or.inl rfl) (c_call C_law_reel (hr.mono (by omega)) pass0 (pa_cons (pv 0) (pa_cons (pv 1) pa_nil))))
    (pss_cons (ps_set (i := 3) sc_law.nd rfl (Or.inl rfl) (c_call C_law_strip (hr.mono (by omega)) pass0 (pa_cons (pv 2) (pa_cons (c_call C_law_size (hr.mono (by omega)) pass0 (pa_cons (pv 2) (pa_cons pe_int pa_nil))) pa_nil))))
    (pss_cons (ps_set (i := 4) sc_law.nd rfl (Or.inl rfl) (c_call C_law_strip (hr.mono (by omega)) pass0 (pa_cons (pv 2) (pa_cons (c_call C_law_size (hr.mono (by omega)) pass0 (pa_cons (pv 2) (pa_cons pe_int pa_nil))) pa_nil))))
    (pss_cons (ps_set (i := 5) sc_law.nd rfl (Or.inl rfl) (pe_lst pa_nil))
    (pss_one (ps_for PassesOwn.never rfl (pi_range1 rfl T.range (pa_cons pe_int pa_nil)) (pg_name (i := 6) sc_law.nd rfl (Or.inl rfl)) (pss_cons (ps_if (pt_cmpR op_ne (c_call C_written (hr.mono (by omega)) pass0 (pa_cons (pv 3) pa_nil)) (c_call C_law_text (hr.mono (by omega)) pass0 (pa_cons (pv 3) pa_nil)) (nomark _)) (pss_one (ps_ret pe_bl)) pss_nil)
    (pss_cons (ps_asg (c_call C_law_all (hr.mono (by omega)) pass0 (pa_cons (pv 2) (pa_cons (pv 3) (pa_cons (pv 4) pa_nil)))) (pg_tup rfl (pgs_cons (pg_name (i := 7) sc_law.nd rfl (Or.inl rfl)) (pgs_cons (pg_name (i := 8) sc_law.nd rfl (Or.inl rfl)) pgs_nil))))
    (pss_cons (ps_expr (pe_bm PySem.F.plainAttrs_list PySem.F.slot_list_append PySem.F.type_list_append mt_append (pv 5) (pa_cons (pe_tup (pa_cons (pv 7) (pa_cons (pv 8) pa_nil))) pa_nil)))
    (pss_cons (ps_if (pt_cmpR (k_neD (K := K) rfl hr.r.units) (pe_lc (own := [("before", 9), ("then", 10)]) (g := (gTup K 2 (gCons (gName 9) (gCons (gName 10) gNil)))) (by rfl) sc_law.nd (pi_list (pv 5)) (blkOk_by (own := [("before", 9), ("then", 10)]) (N := ["script", "k", "reel", "strip", "other", "past", "turn", "told", "due", "before", "then", "some"]) (sc := defScope s_law) (by decide +kernel)) (fun _ _ _ _ _ => (pg_tup rfl (pgs_cons (pg_name (i := 9) sc_law.nd rfl (Or.inl rfl)) (pgs_cons (pg_name (i := 10) sc_law.nd rfl (Or.inl rfl)) pgs_nil)))) (fun _ _ _ _ _ => (pts_one (pt_cmpR (k_neD (K := K) rfl hr.r.units) (pv 9) (pv 10) (nomark _)))) (fun _ _ _ _ _ => pe_int)) (pe_lst pa_nil) (nomark _)) (pss_one (ps_ret pe_bl)) pss_nil)
    (pss_cons (ps_set (i := 11) sc_law.nd rfl (Or.inl rfl) (pe_ix (k_ixL (K := K) rfl) (pv 7) (c_call C_law_pull (hr.mono (by omega)) pass0 (pa_cons (pv 2) (pa_cons (pe_callB (kc_len (K := K) rfl) (by rfl) T.len (by decide +kernel) (pa_cons (pv 7) pa_nil)) pa_nil))) (fun _ _ => rfl)))
    (pss_cons (ps_set (i := 5) sc_law.nd rfl (Or.inl rfl) (pe_slice (k_slL (K := K) rfl) (pv 5) po_none (po_some (pe_un un_neg pe_int))))
    (pss_cons (ps_expr (c_call C_law_change (hr.mono (by omega)) pass0 (pa_cons (pv 2) (pa_cons (pv 11) pa_nil))))
    (pss_cons (ps_if (PW.pt (pw_or (pt_cmpR op_ne (c_call C_written (hr.mono (by omega)) pass0 (pa_cons (pv 11) pa_nil)) (c_call C_law_text (hr.mono (by omega)) pass0 (pa_cons (pv 11) pa_nil)) (nomark _)) (pw_or1 (pt_cmpR (k_neD (K := K) rfl hr.r.units) (c_call C_turned (hr.mono (by omega)) pass0 (pa_cons (pv 11) pa_nil)) (pe_revL (pv 11)) (nomark _))))) (pss_one (ps_ret pe_bl)) pss_nil)
    (pss_cons (ps_expr (c_call C_law_change (hr.mono (by omega)) pass0 (pa_cons (pv 2) (pa_cons (pv 3) pa_nil))))
    (pss_cons (ps_expr (pe_bm PySem.F.plainAttrs_list PySem.F.slot_list_append PySem.F.type_list_append mt_append (pv 5) (pa_cons (pe_tup (pa_cons (pe_lst (pa_cons (c_call C_written (hr.mono (by omega)) pass0 (pa_cons (pv 3) pa_nil)) pa_nil)) (pa_cons (pe_lst (pa_cons (c_call C_law_text (hr.mono (by omega)) pass0 (pa_cons (pv 3) pa_nil)) pa_nil)) pa_nil))) pa_nil)))
    (pss_cons (ps_expr (pe_bm PySem.F.plainAttrs_list PySem.F.slot_list_append PySem.F.type_list_append mt_append (pv 5) (pa_cons (c_call C_law_all (hr.mono (by omega)) pass0 (pa_cons (pv 2) (pa_cons (pv 3) (pa_cons (pv 4) pa_nil)))) pa_nil)))
    (pss_one (ps_expr (c_call C_law_change (hr.mono (by omega)) pass0 (pa_cons (pv 2) (pa_cons (pe_ix (k_ixL (K := K) rfl) (pe_lst (pa_cons (pv 3) (pa_cons (pv 4) pa_nil))) (c_call C_law_pull (hr.mono (by omega)) pass0 (pa_cons (pv 2) (pa_cons pe_int pa_nil))) (fun _ _ => rfl)) pa_nil)))))))))))))))))))))))
    (pss_one (ps_ret pe_bl))), ?_⟩
  refine ⟨.ref a, rfl, a, _, rfl, .inl hS, _, _, rfl, _, _, rfl, _, rfl, ?_, ?_, ?_⟩
  · split <;> split <;> omega
  · rw [List.length_map]
    split <;> split <;> omega
  have top : ∀ {x : Int}, x = (if (if ((ns.map V.int).length : Int) < 4 then ((ns.map V.int).length : Int) else 4) > 1 then (if ((ns.map V.int).length : Int) < 4 then ((ns.map V.int).length : Int) else 4) else 1) → x.toNat ≤ 6 := by
    intro x e
    rw [e]
    split <;> split <;> omega
  refine for_it walk_range (fun i σ H' => ∃ v1 v2 v3 v4 v5 v6 v7 v8 v9 v10 v11 : Option V, σ = [some (.ref a), v1, v2, v3, v4, v5, v6, v7, v8, v9, v10, v11] ∧ Same H H') ⟨none, none, none, none, none, none, none, none, none, none, none, rfl, Same.refl H⟩ (fun _ _ _ _ _ => True.intro) ?_ ?_
  · rintro i x σ H1 H1' hi ⟨v1, v2, v3, v4, v5, v6, v7, v8, v9, v10, v11, rfl, s1⟩ ⟨rfl, rfl⟩
    have hi6 : i < 6 := Nat.lt_of_lt_of_le hi (top rfl)
    refine ⟨.ref a, rfl, .int (0 + i), rfl, a, ns, 0 + i, rfl, s1.seq hS, by omega, by omega, fun p H2 hp s2 e2 => ?_⟩
    have hpH : H p = none := s1.free hp
    have s02 := s1.trans s2
    -- strip, other
    refine ⟨.ref p, rfl, .ref p, rfl, p, 200, 1000000, rfl, e2, by omega, by omega, fun r H4 s4 r1 r2 r3 => ?_⟩
    refine ⟨p, r, _, rfl, s4.b, by omega, r3, by omega, fun H5 st ts cs hl1 hg s5 hq hL hD => ?_⟩
    have s35 := s4.trans s5
    refine ⟨.ref p, rfl, .ref p, rfl, p, 60, _, rfl, s35.b, by omega, by omega, fun r' H6 s6 r1' r2' r3' => ?_⟩
    refine ⟨p, r', _, rfl, s6.b, by omega, r3', by omega, fun H7 ot ts' co hl2 hg' s7 hq' hL' hD' => ?_⟩
    have s57 := s6.trans s7
    have s37 := s35.trans s57
    -- past = []
    refine ⟨Nat.zero_le _, fun pa npa => ?_⟩
    have s8 := same_new (o := .lst []) npa
    have S1 : Strip H7 st cs := (Strip.of hL hD).sr s57
    have S2 : Strip H7 ot co := .of hL' hD'
    have nst : H st = none := s02.free (s4.free hq)
    have not_ : H ot = none := s02.free (s35.free (s6.free hq'))
    have n7 : 900000 ≤ 1000000 - 4 - (2 + 5 * r.toNat) - 4 - (2 + 5 * r'.toNat) := by omega
    generalize 1000000 - 4 - (2 + 5 * r.toNat) - 4 - (2 + 5 * r'.toNat) = n0 at s7 s37 n7 s57
    have i0 : Iv H p st ot pa n0 (upd H7 pa (.lst [])) cs co [] :=
      ⟨(same_old s02 s37 hpH).trans s8, hpH, nst, not_, s02.free (s37.free npa), s8 _ _ s37.b, S1.same s8, S2.same s8, ⟨hg, by omega, by omega⟩, ⟨hg', by omega, by omega⟩, upd_same, fun v hv => (by cases hv), (Strip.of hL hD).sr s6 |>.ne_new hq', S1.ne_new npa, S2.ne_new npa⟩
    refine ⟨_, rfl, by decide, by decide, ?_⟩
    refine for_it walk_range (fun j σ H' => ∃ (v6 v7 v8 v9 v10 v11 : Option V) (n : Nat) (pa : Addr) (cs co : List (Bool × Int)) (ps : List V), σ = [some (.ref a), some (.int (0 + i)), some (.ref p), some (.ref st), some (.ref ot), some (.ref pa), v6, v7, v8, v9, v10, v11] ∧ Iv H p st ot pa n H' cs co ps ∧ 900000 ≤ n + 20 * j ∧ ps.length ≤ 2 * j)
      ⟨v6, v7, v8, v9, v10, v11, n0, pa, cs, co, [], rfl, i0, by omega, Nat.zero_le _⟩ (fun _ _ _ _ _ => True.intro) ?_ ?_
    · clear i0 n7 nst not_ S1 S2 s8 s37 s57 s35 s02 s2 e2 s4 s5 s6 s7 hq hL hD hq' hL' hD'
      rintro j y σ H3 H3' hj ⟨v6, v7, v8, v9, v10, v11, n, pa, cs, co, ps, rfl, I0, hn, hps⟩ ⟨rfl, rfl⟩
      have hj20 : j < 20 := hj
      have lcs := I0.f1.hi
      have lco := I0.f2.hi
      -- written(strip) != _law_text(strip)
      refine ⟨.ref st, rfl, st, cs, rfl, I0.S1, I0.f1.g, by omega, fun H4 s4 => ?_⟩
      have I1 := I0.same s4
      refine ⟨.ref st, rfl, st, cs, rfl, I1.S1, I1.f1.g, by omega, fun H5 s5 => ?_⟩
      have I2 := I1.same s5
      refine ⟨rfl, _, rfl, iteNS rfl ?_⟩
      -- told, due
      refine ⟨.ref p, rfl, .ref st, rfl, .ref ot, rfl, p, st, ot, cs, co, n, rfl, I2.hp, by omega, I2.S1, I2.S2, I2.f1, I2.f2, fun t l m xs ys css n1 H6 hn1 nt et A c1 c10 => ?_⟩
      refine ⟨t, _, rfl, SqT.of et, rfl, .ref l, _, rfl, .ref m, [], rfl, rfl, ?_⟩
      have I3 := I2.sr A.r
      have ntr : H5 t = none := nt
      -- past.append((told, due))
      refine ⟨.ref pa, rfl, .inl ⟨rfl, _, SqL.of I3.ep⟩, .ref l, rfl, .ref m, rfl, (by show 2 ≤ sizeLine; decide), fun u nu => ?_⟩
      have s7 := same_new (o := .tup [.ref l, .ref m]) nu
      have I4 := I3.same s7
      refine ⟨pa, ps, _, rfl, rfl, I4.ep, long_ok (by omega), ?_⟩
      have I5 := I4.push (A.pk s7 I2.S1.ex I2.S2.ex ⟨_, I2.ep⟩ (A.r.free nu) upd_same)
      -- what is past is as it was
      have el5 : upd (upd H6 u (.tup [.ref l, .ref m])) pa (.lst (ps ++ [.ref u])) l = some (.lst xs) := by
        rw [upd_ne (ne_of_none I2.ep A.nl).symm]
        exact s7 _ _ A.el
      have fs5 : ∀ {v c}, Fs H5 H6 l m v c → Fs H5 (upd (upd H6 u (.tup [.ref l, .ref m])) pa (.lst (ps ++ [.ref u]))) l m v c := fun ⟨q, e, b, d, f, S, g⟩ => ⟨q, e, b, d, f, (S.same s7).other I4.ep (ne_of_none I2.ep b).symm, g⟩
      have mv25 : Mv p st ot pa H5 (upd (upd H6 u (.tup [.ref l, .ref m])) pa (.lst (ps ++ [.ref u]))) := ((Mv.sr A.r).trans (.of s7)).trans .push
      generalize upd (upd H6 u (.tup [.ref l, .ref m])) pa (.lst (ps ++ [.ref u])) = H7 at I5 el5 fs5 mv25
      refine ⟨.ref pa, rfl, pa, rfl, ⟨_, SqL.of I5.ep⟩, fun D hD => ?_⟩
      refine lc_it (walk_list (xs := ps ++ [.ref u])) (fun i H' => Same H7 H' ∧ H' D = some (.lst [])) ⟨same_new hD, upd_same⟩ (fun i H' _ e => SqL.of (e.1 _ _ I5.ep)) ?_ ?_
      · rintro z y H8 H8' hz ⟨s8, eD⟩ ⟨rfl, ey⟩
        obtain ⟨B, dB, sB⟩ := (I5.same s8).po y (List.mem_of_getElem? ey)
        have dB' := dB.same ((same_del.trans same_del).trans same_del)
        cases dB' with
        | @tup t' _ _ et' r =>
          cases r with
          | @cons x1 _ _ _ a1 r =>
            cases r with
            | @cons x2 _ _ _ a2 r =>
              cases r
              have sB1 : shp 3 (.list B) := sB _ List.mem_cons_self
              refine ⟨t', _, rfl, SqT.of et', rfl, x1, _, rfl, x2, [], rfl, rfl, rfl, ?_⟩
              refine ⟨x1, rfl, x2, rfl, neD a1 a2 sB1 ⟨false, rfl, iteF ?_⟩⟩
              exact ⟨s8, eD⟩
      · rintro H8 ⟨s8, eD⟩
        refine ⟨Nat.zero_le _, fun u2 nu2 => ?_⟩
        have s9 := same_new (o := .lst []) nu2
        refine neD (n := 1) (.lst (s9 _ _ eD) .nil) (.lst upd_same .nil) (shp_list fun d hd => by cases hd) ⟨false, rfl, iteF ?_⟩
        have s79 := s8.trans s9
        have I6 := I5.same s79
        have el6 := s79 _ _ el5
        have fs6 : ∀ {v c}, Fs H5 H6 l m v c → Fs H5 (upd H8 u2 (.lst [])) l m v c := fun h => (fs5 h).same s79
        have mv26 := mv25.trans (.of s79)
        generalize upd H8 u2 (.lst []) = H9 at I6 el6 fs6 mv26
        -- some
        have lx := paired_len A.fx
        refine ⟨.ref l, rfl, .ref p, rfl, .ref l, rfl, l, xs, rfl, .inl (SqL.of el6), p, _, n1, rfl, I6.hp, by omega, by omega, ?_, fun r H10 s10 r0 r1 => ?_⟩
        · have e29 : (2 : Int) ^ 29 = 536870912 := by decide
          omega
        obtain ⟨v, ev, mv⟩ := at_mem (xs := xs) r0 r1
        obtain ⟨c, fc⟩ := paired_mem A.fx mv
        have I7 := I6.sr s10
        refine ⟨l, xs, r, v, rfl, rfl, SqL.of (s10.lst el6), ev, ?_⟩
        obtain ⟨so, rfl, nso, _, _, Sso, fso⟩ := fs6 fc
        have Sso := Sso.sr s10
        have mv27 := mv26.trans (Mv.sr s10)
        -- past = past[:-1]
        refine ⟨.ref pa, rfl, 1, rfl, _, rfl, pa, _, rfl, SqL.of I7.ep, fun pa' npa' => ?_⟩
        have ec : cutV (ps ++ [V.ref u]) none (some (-1)) = ps := cut_last
        have e8 : upd H10 pa' (.lst (cutV (ps ++ [V.ref u]) none (some (-1)))) = upd H10 pa' (.lst ps) := by rw [ec]
        rw [show (-(1 : Int)) = -1 from rfl, e8]
        have s11 := same_new (o := .lst ps) npa'
        have I8' := (I2.go mv27 I7.hp I7.S1 I7.S2 I7.f1 I7.f2 I7.ep (fun v hv => by
          rcases List.mem_append.mp hv with h | h
          · exact .inl h
          · exact .inr (I7.po v (List.mem_append_right _ h)))).swap npa' (ps' := ps) (fun v hv => List.mem_append_left _ hv)
        have Sso8 := Sso.same s11
        have so_pa' : so ≠ pa' := Sso.ne_new npa'
        have so_st : so ≠ st := (ne_of_none I2.S1.ex.choose_spec nso).symm
        have so_ot : so ≠ ot := (ne_of_none I2.S2.ex.choose_spec nso).symm
        have mv28 : ∀ b o, b ≠ p → b ≠ st → b ≠ ot → b ≠ pa → H5 b = some o → upd H10 pa' (.lst ps) b = some o := fun b o d1 d2 d3 d4 e => s11 _ _ (mv27 b o d1 d2 d3 d4 e)
        have npa5 : H5 pa' = none ∨ pa' = pa ∨ True := .inr (.inr True.intro)
        generalize hH11 : upd H10 pa' (.lst ps) = H11 at I8' Sso8 mv28 s11
        -- _law_change(reel, some)
        refine ⟨.ref p, rfl, .ref so, rfl, p, so, c, n1 - 1, rfl, I8'.hp, by omega, Sso8, fso, fun H12 c' ch12 hp12 Sso12 fso' => ?_⟩
        -- the past does not lean on it
        have po12 : ∀ v ∈ ps, Pk st ot pa' H12 v := by
          intro v hv
          obtain ⟨A', d, sh⟩ := I2.po v hv
          have old : ∀ {b : Addr} {o : HO}, H5 b = some o → b ≠ p → b ≠ st → b ≠ ot → b ≠ pa → b ≠ pa' ∧ H12 b = some o := fun {b o} e d1 d2 d3 d4 => by
            have e10 : H10 b = some o := mv27 b o d1 d2 d3 d4 e
            exact ⟨ne_of_none e10 npa', ch12 b o d1 (ne_of_none e nso) (mv28 b o d1 d2 d3 d4 e)⟩
          refine ⟨A', d.keep (fun b zs e => ?_) (fun b zs e => ?_), sh⟩
          · obtain ⟨a1, a2, a3, a4⟩ := del3 e
            have z := old a4 (ne_of a4 I2.hp rl_ne_lst.symm) a1 a2 a3
            exact del3i a1 a2 z.1 z.2
          · obtain ⟨a1, a2, a3, a4⟩ := del3 e
            have z := old a4 (ne_of a4 I2.hp rl_ne_tup.symm) a1 a2 a3
            exact del3i a1 a2 z.1 z.2
        have exso := Sso8.ex
        have nsoH : H so = none := I2.sm.free nso
        have I9 : Iv H p st ot pa' (n1 - 1 - 4) H12 cs co ps :=
          ⟨fun b o e => ch12 b o (ne_of_none e I8'.zp) (ne_of_none e nsoH) (I8'.sm b o e), I8'.zp, I8'.zs, I8'.zo, I8'.za, hp12, ch12.strip I8'.hp I8'.S1 so_st.symm exso, ch12.strip I8'.hp I8'.S2 so_ot.symm exso, I8'.f1, I8'.f2, ch12.lst I8'.hp I8'.ep so_pa'.symm, po12, I8'.d12, I8'.d1p, I8'.d2p⟩
        -- written(some) != _law_text(some) or turned(some) != some[::-1]
        refine ⟨.ref so, rfl, so, c', rfl, Sso12, fso'.g, by have := fso'.hi; omega, fun H13 s13 => ?_⟩
        refine ⟨.ref so, rfl, so, c', rfl, Sso12.same s13, fso'.g, by have := fso'.hi; omega, fun H14 s14 => ?_⟩
        refine ⟨rfl, _, rfl, iteNS rfl ?_⟩
        have s124 := s13.trans s14
        obtain ⟨tso, eso, dso⟩ := Sso12.same s124
        refine ⟨.ref so, rfl, so, tso, rfl, eso, fun q1 H15 nq1 s15 eq1 => ?_⟩
        refine ⟨.ref so, rfl, so, tso, rfl, SqL.of (s15 _ _ eso), fun q2 nq2 => ?_⟩
        have s16 := same_new (o := .lst tso.reverse) nq2
        have dR : DtAll (upd H15 q2 (.lst tso.reverse)) tso.reverse (c'.reverse.map cellD) := by
          rw [List.map_reverse]
          exact (dso.same (s15.trans s16)).reverse
        refine neD (Strip.of (s16 _ _ eq1) dR).dt (Strip.of upd_same dR).dt (shp_strip _) ⟨false, rfl, iteF ?_⟩
        have I10 := I9.same (s124.trans (s15.trans s16))
        generalize upd H15 q2 (.lst tso.reverse) = H16 at I10
        -- _law_change(reel, strip)
        refine ⟨.ref p, rfl, .ref st, rfl, p, st, cs, n1 - 1 - 4, rfl, I10.hp, by omega, I10.S1, I10.f1, fun H17 cs' ch17 hp17 S17 f17 => ?_⟩
        have I11 := I10.ch1 ch17 hp17 S17 f17
        have lcs' := f17.hi
        -- past.append(([written(strip)], [_law_text(strip)]))
        refine ⟨.ref pa', rfl, .inl ⟨rfl, _, SqL.of I11.ep⟩, .ref st, rfl, st, cs', rfl, I11.S1, f17.g, by omega, fun H18 s18 => ⟨(by show 1 ≤ sizeLine; decide), fun w1 nw1 => ?_⟩⟩
        have s19 := same_new (o := .lst [.str (textS cs')]) nw1
        have I12 := I11.same (s18.trans s19)
        refine ⟨.ref st, rfl, st, cs', rfl, I12.S1, f17.g, by omega, fun H20 s20 => ⟨(by show 1 ≤ sizeLine; decide), fun w2 nw2 => ⟨(by show 2 ≤ sizeLine; decide), fun w3 nw3 => ?_⟩⟩⟩
        have s21 := same_new (o := .lst [.str (textS cs')]) nw2
        have s22 := same_new (o := .tup [.ref w1, .ref w2]) nw3
        have I13 := I12.same (s20.trans (s21.trans s22))
        have pkW : Pk st ot pa' (upd (upd H20 w2 (.lst [.str (textS cs')])) w3 (.tup [.ref w1, .ref w2])) (.ref w3) := by
          have I12b := I12.same s20
          have I12c := I12b.same s21
          have nw1' : H18 w1 = none := nw1
          have I11b := I11.same s18
          have f1 : ∀ {q : Addr}, H18 q = none → q ≠ st ∧ q ≠ ot ∧ q ≠ pa' := fun n => ⟨(I11b.S1.ne_new n).symm, (I11b.S2.ne_new n).symm, (ne_of_none I11b.ep n).symm⟩
          have f2 : ∀ {q : Addr}, H20 q = none → q ≠ st ∧ q ≠ ot ∧ q ≠ pa' := fun n => ⟨(I12b.S1.ne_new n).symm, (I12b.S2.ne_new n).symm, (ne_of_none I12b.ep n).symm⟩
          have f3 : w3 ≠ st ∧ w3 ≠ ot ∧ w3 ≠ pa' := ⟨(I12c.S1.ne_new nw3).symm, (I12c.S2.ne_new nw3).symm, (ne_of_none I12c.ep nw3).symm⟩
          refine ⟨[.str (textS cs')], .tup (del3i f3.1 f3.2.1 f3.2.2 upd_same) (.cons (.lst (del3i (f1 nw1).1 (f1 nw1).2.1 (f1 nw1).2.2 ((s20.trans (s21.trans s22)) _ _ upd_same)) (.one (.str _))) (.one (.lst (del3i (f2 nw2).1 (f2 nw2).2.1 (f2 nw2).2.2 (s22 _ _ upd_same)) (.one (.str _))))), ?_⟩
          have fine := text_fine f17.g
          refine shp_tup fun d hd => ?_
          simp only [List.mem_cons, List.not_mem_nil, or_false] at hd
          have one : shp 3 (.list [PyData.str (textS cs')]) := shp_list fun d hd => by
            simp only [List.mem_singleton] at hd
            subst hd
            exact fine
          rcases hd with rfl | rfl <;> exact one
        refine ⟨pa', ps, _, rfl, rfl, I13.ep, long_ok (by omega), ?_⟩
        have I14 := I13.push pkW
        generalize upd (upd (upd H20 w2 (.lst [.str (textS cs')])) w3 (.tup [.ref w1, .ref w2])) pa' (.lst (ps ++ [.ref w3])) = H23 at I14
        -- past.append(_law_all(reel, strip, other))
        refine ⟨.ref pa', rfl, .inl ⟨rfl, _, SqL.of I14.ep⟩, .ref p, rfl, .ref st, rfl, .ref ot, rfl, p, st, ot, cs', co, _, rfl, I14.hp, by omega, I14.S1, I14.S2, I14.f1, I14.f2, fun t2 l2 m2 xs2 ys2 css2 n2 H24 hn2 nt2 et2 A2 _ _ => ?_⟩
        have I15 := I14.sr A2.r
        refine ⟨pa', _, _, rfl, rfl, I15.ep, long_ok (by rw [List.length_append, List.length_singleton]; omega), ?_⟩
        have I16 := I15.push (A2.pk (Same.refl H24) I14.S1.ex I14.S2.ex ⟨_, I14.ep⟩ nt2 et2)
        generalize upd H24 pa' (.lst (ps ++ [.ref w3] ++ [.ref t2])) = H25 at I16
        -- _law_change(reel, [strip, other][..])
        refine ⟨.ref p, rfl, .ref st, rfl, .ref ot, rfl, (by show 2 ≤ sizeLine; decide), fun w4 nw4 => ?_⟩
        have s26 := same_new (o := .lst [.ref st, .ref ot]) nw4
        have I17 := I16.same s26
        refine ⟨.ref p, rfl, p, 2, n2, rfl, I17.hp, by omega, by decide, by decide, fun r2 H27 s27 r20 r21 => ?_⟩
        have I18 := I17.sr s27
        obtain ⟨v2, ev2, mv2⟩ := at_mem (xs := [.ref st, .ref ot]) r20 r21
        refine ⟨w4, _, r2, v2, rfl, rfl, SqL.of (s27.lst upd_same), ev2, ?_⟩
        have lps : (ps ++ [V.ref w3] ++ [V.ref t2]).length ≤ 2 * (j + 1) := by
          simp only [List.length_append, List.length_singleton]
          omega
        simp only [List.mem_cons, List.not_mem_nil, or_false] at mv2
        rcases mv2 with rfl | rfl
        · exact ⟨p, st, cs', n2 - 1, rfl, I18.hp, by omega, I18.S1, I18.f1, fun H28 cs2 ch28 hp28 S28 f28 => ⟨_, _, _, _, _, _, _, pa', cs2, co, _, rfl, I18.ch1 ch28 hp28 S28 f28, by omega, lps⟩⟩
        · exact ⟨p, ot, co, n2 - 1, rfl, I18.hp, by omega, I18.S2, I18.f2, fun H28 co2 ch28 hp28 S28 f28 => ⟨_, _, _, _, _, _, _, pa', cs', co2, _, rfl, I18.ch2 ch28 hp28 S28 f28, by omega, lps⟩⟩
    · rintro σ H4 ⟨v6, v7, v8, v9, v10, v11, n, pa, cs, co, ps, rfl, I0, _, _⟩
      exact ⟨_, _, _, _, _, _, _, _, _, _, _, rfl, I0.sm⟩
  · rintro σ H1 ⟨v1, v2, v3, v4, v5, v6, v7, v8, v9, v10, v11, rfl, s1⟩
    exact k _
end
theorem all_mk {l : PySem.W.OpenLaw} {w : World} {K : PySem.W.Frag} {h : Heap} {mg : Str → Option Value} {fa : Addr} (X : K.In h) (G : h.Ns mainGlobals mg) (hfa : mg "law" = some (.ref fa))
    {f1 : Addr} {od1 an1 : Option Addr} {sl1 : Array (Option Value)} {oc1 kV1 dc1 pm1 cd1 ct1 : Value}
    {f2 : Addr} {od2 an2 : Option Addr} {sl2 : Array (Option Value)} {oc2 kV2 dc2 pm2 cd2 ct2 : Value}
    {f3 : Addr} {od3 an3 : Option Addr} {sl3 : Array (Option Value)} {oc3 kV3 dc3 pm3 cd3 ct3 : Value}
    {f4 : Addr} {od4 an4 : Option Addr} {sl4 : Array (Option Value)} {oc4 kV4 dc4 pm4 cd4 ct4 : Value}
    {f5 : Addr} {od5 an5 : Option Addr} {sl5 : Array (Option Value)} {oc5 kV5 dc5 pm5 cd5 ct5 : Value}
    {f6 : Addr} {od6 an6 : Option Addr} {sl6 : Array (Option Value)} {oc6 kV6 dc6 pm6 cd6 ct6 : Value}
    {f7 : Addr} {od7 an7 : Option Addr} {sl7 : Array (Option Value)} {oc7 kV7 dc7 pm7 cd7 ct7 : Value}
    {f8 : Addr} {od8 an8 : Option Addr} {sl8 : Array (Option Value)} {oc8 kV8 dc8 pm8 cd8 ct8 : Value}
    {f9 : Addr} {od9 an9 : Option Addr} {sl9 : Array (Option Value)} {oc9 kV9 dc9 pm9 cd9 ct9 : Value}
    {f10 : Addr} {od10 an10 : Option Addr} {sl10 : Array (Option Value)} {oc10 kV10 dc10 pm10 cd10 ct10 : Value}
    {f11 : Addr} {od11 an11 : Option Addr} {sl11 : Array (Option Value)} {oc11 kV11 dc11 pm11 cd11 ct11 : Value}
    {f12 : Addr} {od12 an12 : Option Addr} {sl12 : Array (Option Value)} {oc12 kV12 dc12 pm12 cd12 ct12 : Value}
    {f13 : Addr} {od13 an13 : Option Addr} {sl13 : Array (Option Value)} {oc13 kV13 dc13 pm13 cd13 ct13 : Value}
    {f14 : Addr} {od14 an14 : Option Addr} {sl14 : Array (Option Value)} {oc14 kV14 dc14 pm14 cd14 ct14 : Value}
    {f15 : Addr} {od15 an15 : Option Addr} {sl15 : Array (Option Value)} {oc15 kV15 dc15 pm15 cd15 ct15 : Value}
    {f16 : Addr} {od16 an16 : Option Addr} {sl16 : Array (Option Value)} {oc16 kV16 dc16 pm16 cd16 ct16 : Value}
    {t_MOST_CELLS : Tok}
    {t_MOST_PASSES : Tok}
    (a1 : PySem.W.nsIn K mainGlobals "is_number" = some (some (.ref f1)))
    (l1 : K.lookup f1 = some ⟨oc1, od1, .func (PySem.W.fnOf "is_number" "is_number" (defArgs s_is_number) (defBody s_is_number) (defScope s_is_number) .none kV1 dc1 pm1 an1 cd1 ct1), sl1⟩)
    (c1 : PySem.W.codeIn K cd1 "is_number" = true)
    (k1 : PySem.W.keepIn K (.ref f1) = true)
    (a2 : PySem.W.nsIn K mainGlobals "read" = some (some (.ref f2)))
    (l2 : K.lookup f2 = some ⟨oc2, od2, .func (PySem.W.fnOf "read" "read" (defArgs s_read) (defBody s_read) (defScope s_read) .none kV2 dc2 pm2 an2 cd2 ct2), sl2⟩)
    (c2 : PySem.W.codeIn K cd2 "read" = true)
    (k2 : PySem.W.keepIn K (.ref f2) = true)
    (a3 : PySem.W.nsIn K mainGlobals "written" = some (some (.ref f3)))
    (l3 : K.lookup f3 = some ⟨oc3, od3, .func (PySem.W.fnOf "written" "written" (defArgs s_written) (defBody s_written) (defScope s_written) .none kV3 dc3 pm3 an3 cd3 ct3), sl3⟩)
    (c3 : PySem.W.codeIn K cd3 "written" = true)
    (k3 : PySem.W.keepIn K (.ref f3) = true)
    (a4 : PySem.W.nsIn K mainGlobals "glued" = some (some (.ref f4)))
    (l4 : K.lookup f4 = some ⟨oc4, od4, .func (PySem.W.fnOf "glued" "glued" (defArgs s_glued) (defBody s_glued) (defScope s_glued) .none kV4 dc4 pm4 an4 cd4 ct4), sl4⟩)
    (c4 : PySem.W.codeIn K cd4 "glued" = true)
    (k4 : PySem.W.keepIn K (.ref f4) = true)
    (a5 : PySem.W.nsIn K mainGlobals "parted" = some (some (.ref f5)))
    (l5 : K.lookup f5 = some ⟨oc5, od5, .func (PySem.W.fnOf "parted" "parted" (defArgs s_parted) (defBody s_parted) (defScope s_parted) .none kV5 dc5 pm5 an5 cd5 ct5), sl5⟩)
    (c5 : PySem.W.codeIn K cd5 "parted" = true)
    (k5 : PySem.W.keepIn K (.ref f5) = true)
    (a6 : PySem.W.nsIn K mainGlobals "turned" = some (some (.ref f6)))
    (l6 : K.lookup f6 = some ⟨oc6, od6, .func (PySem.W.fnOf "turned" "turned" (defArgs s_turned) (defBody s_turned) (defScope s_turned) .none kV6 dc6 pm6 an6 cd6 ct6), sl6⟩)
    (c6 : PySem.W.codeIn K cd6 "turned" = true)
    (k6 : PySem.W.keepIn K (.ref f6) = true)
    (a7 : PySem.W.nsIn K mainGlobals "_cell" = some (some (.ref f7)))
    (l7 : K.lookup f7 = some ⟨oc7, od7, .func (PySem.W.fnOf "_cell" "_cell" (defArgs s_cell) (defBody s_cell) (defScope s_cell) .none kV7 dc7 pm7 an7 cd7 ct7), sl7⟩)
    (c7 : PySem.W.codeIn K cd7 "_cell" = true)
    (k7 : PySem.W.keepIn K (.ref f7) = true)
    (a8 : PySem.W.nsIn K mainGlobals "_word" = some (some (.ref f8)))
    (l8 : K.lookup f8 = some ⟨oc8, od8, .func (PySem.W.fnOf "_word" "_word" (defArgs s_word) (defBody s_word) (defScope s_word) .none kV8 dc8 pm8 an8 cd8 ct8), sl8⟩)
    (c8 : PySem.W.codeIn K cd8 "_word" = true)
    (k8 : PySem.W.keepIn K (.ref f8) = true)
    (a9 : PySem.W.nsIn K mainGlobals "_law_reel" = some (some (.ref f9)))
    (l9 : K.lookup f9 = some ⟨oc9, od9, .func (PySem.W.fnOf "_law_reel" "_law_reel" (defArgs s_law_reel) (defBody s_law_reel) (defScope s_law_reel) .none kV9 dc9 pm9 an9 cd9 ct9), sl9⟩)
    (c9 : PySem.W.codeIn K cd9 "_law_reel" = true)
    (k9 : PySem.W.keepIn K (.ref f9) = true)
    (a10 : PySem.W.nsIn K mainGlobals "_law_pull" = some (some (.ref f10)))
    (l10 : K.lookup f10 = some ⟨oc10, od10, .func (PySem.W.fnOf "_law_pull" "_law_pull" (defArgs s_law_pull) (defBody s_law_pull) (defScope s_law_pull) .none kV10 dc10 pm10 an10 cd10 ct10), sl10⟩)
    (c10 : PySem.W.codeIn K cd10 "_law_pull" = true)
    (k10 : PySem.W.keepIn K (.ref f10) = true)
    (a11 : PySem.W.nsIn K mainGlobals "_law_size" = some (some (.ref f11)))
    (l11 : K.lookup f11 = some ⟨oc11, od11, .func (PySem.W.fnOf "_law_size" "_law_size" (defArgs s_law_size) (defBody s_law_size) (defScope s_law_size) .none kV11 dc11 pm11 an11 cd11 ct11), sl11⟩)
    (c11 : PySem.W.codeIn K cd11 "_law_size" = true)
    (k11 : PySem.W.keepIn K (.ref f11) = true)
    (a12 : PySem.W.nsIn K mainGlobals "_law_strip" = some (some (.ref f12)))
    (l12 : K.lookup f12 = some ⟨oc12, od12, .func (PySem.W.fnOf "_law_strip" "_law_strip" (defArgs s_law_strip) (defBody s_law_strip) (defScope s_law_strip) .none kV12 dc12 pm12 an12 cd12 ct12), sl12⟩)
    (c12 : PySem.W.codeIn K cd12 "_law_strip" = true)
    (k12 : PySem.W.keepIn K (.ref f12) = true)
    (a13 : PySem.W.nsIn K mainGlobals "_law_text" = some (some (.ref f13)))
    (l13 : K.lookup f13 = some ⟨oc13, od13, .func (PySem.W.fnOf "_law_text" "_law_text" (defArgs s_law_text) (defBody s_law_text) (defScope s_law_text) .none kV13 dc13 pm13 an13 cd13 ct13), sl13⟩)
    (c13 : PySem.W.codeIn K cd13 "_law_text" = true)
    (k13 : PySem.W.keepIn K (.ref f13) = true)
    (a14 : PySem.W.nsIn K mainGlobals "_law_change" = some (some (.ref f14)))
    (l14 : K.lookup f14 = some ⟨oc14, od14, .func (PySem.W.fnOf "_law_change" "_law_change" (defArgs s_law_change) (defBody s_law_change) (defScope s_law_change) .none kV14 dc14 pm14 an14 cd14 ct14), sl14⟩)
    (c14 : PySem.W.codeIn K cd14 "_law_change" = true)
    (k14 : PySem.W.keepIn K (.ref f14) = true)
    (a15 : PySem.W.nsIn K mainGlobals "_law_all" = some (some (.ref f15)))
    (l15 : K.lookup f15 = some ⟨oc15, od15, .func (PySem.W.fnOf "_law_all" "_law_all" (defArgs s_law_all) (defBody s_law_all) (defScope s_law_all) .none kV15 dc15 pm15 an15 cd15 ct15), sl15⟩)
    (c15 : PySem.W.codeIn K cd15 "_law_all" = true)
    (k15 : PySem.W.keepIn K (.ref f15) = true)
    (a16 : PySem.W.nsIn K mainGlobals "law" = some (some (.ref f16)))
    (l16 : K.lookup f16 = some ⟨oc16, od16, .func (PySem.W.fnOf "law" "law" (defArgs s_law) (defBody s_law) (defScope s_law) .none kV16 dc16 pm16 an16 cd16 ct16), sl16⟩)
    (c16 : PySem.W.codeIn K cd16 "law" = true)
    (k16 : PySem.W.keepIn K (.ref f16) = true)
    (z_abs : PySem.W.nsIn K mainGlobals "abs" = some none)
    (z_int : PySem.W.nsIn K mainGlobals "int" = some none)
    (z_len : PySem.W.nsIn K mainGlobals "len" = some none)
    (z_list : PySem.W.nsIn K mainGlobals "list" = some none)
    (z_max : PySem.W.nsIn K mainGlobals "max" = some none)
    (z_min : PySem.W.nsIn K mainGlobals "min" = some none)
    (z_range : PySem.W.nsIn K mainGlobals "range" = some none)
    (z_str : PySem.W.nsIn K mainGlobals "str" = some none)
    (v_MOST_CELLS : PySem.W.nsIn K mainGlobals "MOST_CELLS" = some (some (.int 200 t_MOST_CELLS)))
    (v_MOST_PASSES : PySem.W.nsIn K mainGlobals "MOST_PASSES" = some (some (.int 99 t_MOST_PASSES))) :
    ∃ fd : FuncData, (∀ (s : Shared) (v : Value), BindsTo s fd ⟨[v], []⟩ [("script", v)]) ∧ ∀ base : Heap, K.In base → base.Ns mainGlobals mg → Dok l.prog w K mg base CX0 5 fa fd ["script"] (sp_law K) := by
  have e := hfa.symm.trans (PySem.W.mg_of X G a16)
  cases e
  have T : Txt mg := { abs := PySem.W.mg_none_of X G z_abs, int := PySem.W.mg_none_of X G z_int, len := PySem.W.mg_none_of X G z_len, list := PySem.W.mg_none_of X G z_list, max := PySem.W.mg_none_of X G z_max, min := PySem.W.mg_none_of X G z_min, range := PySem.W.mg_none_of X G z_range, str := PySem.W.mg_none_of X G z_str, c_MOST_CELLS := ⟨_, PySem.W.mg_of X G v_MOST_CELLS⟩, c_MOST_PASSES := ⟨_, PySem.W.mg_of X G v_MOST_PASSES⟩ }
  have o_is_number : Own K mg "is_number" s_is_number ["word"] f1 _ := ⟨fun_mk l1 c1 k1, PySem.W.mg_of X G a1, (fun_mk (st := s_is_number) l1 c1 k1).binds (ps := ["word"]) fun _ _ _ _ _ _ us hl => match us, hl with | [_], _ => rfl⟩
  have o_read : Own K mg "read" s_read ["text"] f2 _ := ⟨fun_mk l2 c2 k2, PySem.W.mg_of X G a2, (fun_mk (st := s_read) l2 c2 k2).binds (ps := ["text"]) fun _ _ _ _ _ _ us hl => match us, hl with | [_], _ => rfl⟩
  have o_written : Own K mg "written" s_written ["strip"] f3 _ := ⟨fun_mk l3 c3 k3, PySem.W.mg_of X G a3, (fun_mk (st := s_written) l3 c3 k3).binds (ps := ["strip"]) fun _ _ _ _ _ _ us hl => match us, hl with | [_], _ => rfl⟩
  have o_glued : Own K mg "glued" s_glued ["one", "other"] f4 _ := ⟨fun_mk l4 c4 k4, PySem.W.mg_of X G a4, (fun_mk (st := s_glued) l4 c4 k4).binds (ps := ["one", "other"]) fun _ _ _ _ _ _ us hl => match us, hl with | [_, _], _ => rfl⟩
  have o_parted : Own K mg "parted" s_parted ["strip", "cell"] f5 _ := ⟨fun_mk l5 c5 k5, PySem.W.mg_of X G a5, (fun_mk (st := s_parted) l5 c5 k5).binds (ps := ["strip", "cell"]) fun _ _ _ _ _ _ us hl => match us, hl with | [_, _], _ => rfl⟩
  have o_turned : Own K mg "turned" s_turned ["strip"] f6 _ := ⟨fun_mk l6 c6 k6, PySem.W.mg_of X G a6, (fun_mk (st := s_turned) l6 c6 k6).binds (ps := ["strip"]) fun _ _ _ _ _ _ us hl => match us, hl with | [_], _ => rfl⟩
  have o_cell : Own K mg "_cell" s_cell ["word"] f7 _ := ⟨fun_mk l7 c7 k7, PySem.W.mg_of X G a7, (fun_mk (st := s_cell) l7 c7 k7).binds (ps := ["word"]) fun _ _ _ _ _ _ us hl => match us, hl with | [_], _ => rfl⟩
  have o_word : Own K mg "_word" s_word ["holed", "left"] f8 _ := ⟨fun_mk l8 c8 k8, PySem.W.mg_of X G a8, (fun_mk (st := s_word) l8 c8 k8).binds (ps := ["holed", "left"]) fun _ _ _ _ _ _ us hl => match us, hl with | [_, _], _ => rfl⟩
  have o_law_reel : Own K mg "_law_reel" s_law_reel ["script", "k"] f9 _ := ⟨fun_mk l9 c9 k9, PySem.W.mg_of X G a9, (fun_mk (st := s_law_reel) l9 c9 k9).binds (ps := ["script", "k"]) fun _ _ _ _ _ _ us hl => match us, hl with | [_, _], _ => rfl⟩
  have o_law_pull : Own K mg "_law_pull" s_law_pull ["reel", "count"] f10 _ := ⟨fun_mk l10 c10 k10, PySem.W.mg_of X G a10, (fun_mk (st := s_law_pull) l10 c10 k10).binds (ps := ["reel", "count"]) fun _ _ _ _ _ _ us hl => match us, hl with | [_, _], _ => rfl⟩
  have o_law_size : Own K mg "_law_size" s_law_size ["reel", "most"] f11 _ := ⟨fun_mk l11 c11 k11, PySem.W.mg_of X G a11, (fun_mk (st := s_law_size) l11 c11 k11).binds (ps := ["reel", "most"]) fun _ _ _ _ _ _ us hl => match us, hl with | [_, _], _ => rfl⟩
  have o_law_strip : Own K mg "_law_strip" s_law_strip ["reel", "size"] f12 _ := ⟨fun_mk l12 c12 k12, PySem.W.mg_of X G a12, (fun_mk (st := s_law_strip) l12 c12 k12).binds (ps := ["reel", "size"]) fun _ _ _ _ _ _ us hl => match us, hl with | [_, _], _ => rfl⟩
  have o_law_text : Own K mg "_law_text" s_law_text ["strip"] f13 _ := ⟨fun_mk l13 c13 k13, PySem.W.mg_of X G a13, (fun_mk (st := s_law_text) l13 c13 k13).binds (ps := ["strip"]) fun _ _ _ _ _ _ us hl => match us, hl with | [_], _ => rfl⟩
  have o_law_change : Own K mg "_law_change" s_law_change ["reel", "strip"] f14 _ := ⟨fun_mk l14 c14 k14, PySem.W.mg_of X G a14, (fun_mk (st := s_law_change) l14 c14 k14).binds (ps := ["reel", "strip"]) fun _ _ _ _ _ _ us hl => match us, hl with | [_, _], _ => rfl⟩
  have o_law_all : Own K mg "_law_all" s_law_all ["reel", "strip", "other"] f15 _ := ⟨fun_mk l15 c15 k15, PySem.W.mg_of X G a15, (fun_mk (st := s_law_all) l15 c15 k15).binds (ps := ["reel", "strip", "other"]) fun _ _ _ _ _ _ us hl => match us, hl with | [_, _, _], _ => rfl⟩
  have o_law : ∀ fd, Fun K "law" "law" s_law fa fd → Own K mg "law" s_law ["script"] fa fd := fun fd F => ⟨F, PySem.W.mg_of X G a16, F.binds (ps := ["script"]) fun _ _ _ _ _ _ us hl => match us, hl with | [_], _ => rfl⟩
  refine ⟨PySem.W.fnOf "law" "law" (defArgs s_law) (defBody s_law) (defScope s_law) .none kV16 dc16 pm16 an16 cd16 ct16, fun s v => .of_eq rfl, fun base _ _ => ?_⟩
  have o := o_law _ (fun_mk (st := s_law) l16 c16 k16)
  have C_pull := ok_pull (P := l.prog) (w := w) (base := base) o_law_pull
  have C_reel := ok_reel (P := l.prog) (w := w) (base := base) o_law_reel T
  have C_size := ok_size o_law_size T C_pull
  have C_strip := ok_strip o_law_strip T C_pull
  have C_word := ok_word (P := l.prog) (w := w) (base := base) o_word T
  have C_written := ok_written o_written T C_word
  have C_isp := ok_is_number (P := l.prog) (w := w) (base := base) o_is_number T
  have C_cell := ok_cell o_cell T C_isp
  have C_read := ok_read o_read T C_cell
  have C_glued := ok_glued (P := l.prog) (w := w) (base := base) o_glued
  have C_parted := ok_parted (P := l.prog) (w := w) (base := base) o_parted T
  have C_turned := ok_turned (P := l.prog) (w := w) (base := base) o_turned
  have C_page := ok_page (P := l.prog) (w := w) (base := base) o_law_text T
  have C_change := ok_change o_law_change T C_pull
  have C_all := ok_all o_law_all T C_pull C_written C_read C_glued C_parted C_turned
  exact ok_law o T C_reel C_pull C_size C_strip C_written C_page C_turned C_all C_change
theorem walk {l : PySem.W.OpenLaw} {q : Program} {loose : List Str} {XP : (Str → Option Value) → Heap → Prop} {YP : World → Heap → Prop} {d : DefRec} {K : Params → PySem.W.Frag} (hn : l.most = some 63) (hdf : d.params.defaults = [])
    (hY : ∀ (w : World) (h : Heap), YP w h → (K w.params).In h)
    (F : ∀ (w : World) (mg : Str → Option Value) (fa : Addr) (h : Heap), (K w.params).In h → h.Ns mainGlobals mg → mg d.name = some (.ref fa) →
      ∃ fd : FuncData, (∀ (s : Shared) (u : Value), BindsTo s fd ⟨[u], []⟩ [("script", u)]) ∧ ∀ base : Heap, (K w.params).In base → base.Ns mainGlobals mg → Dok l.prog w (K w.params) mg base CX0 5 fa fd ["script"] (sp_law (K w.params))) :
    PySem.W.WalkO q loose XP YP l.row.toRowW d [] (fun f vs => PySem.call f vs) :=
  walkX (n := 63) (k := 5) (x := "script") (sp := fun w => sp_law (K w.params)) hn (by decide) hdf ⟨rfl, ⟨rfl, by decide, by decide⟩⟩ hY F (fun _ _ a ns hl hS => ⟨a, ns, rfl, hS, hl, fun _ => rfl⟩)
end Lw
open PySem PySem.W PyProof.Rows in
set_option maxRecDepth 100000 in
set_option maxHeartbeats 0 in
theorem PySem.Challenge.cw_pleatpunch_k08_one_strip_grown_in_place_holds : PySem.Challenge.rw_pleatpunch_k08_one_strip_grown_in_place.Holds := by
  w_on; o_law; k_head; (case hw => w_witness2)
  k_fill
  refine Lw.walk (l := PySem.Challenge.rw_pleatpunch_k08_one_strip_grown_in_place) rfl rfl (fun w h Y => PySem.W.kIn_of Y) ?F
  case F =>
    intro w mg fa h KX G hmg
    refine' Lw.all_mk KX G hmg ?a1 ?l1 ?c1 ?k1 ?a2 ?l2 ?c2 ?k2 ?a3 ?l3 ?c3 ?k3 ?a4 ?l4 ?c4 ?k4 ?a5 ?l5 ?c5 ?k5 ?a6 ?l6 ?c6 ?k6 ?a7 ?l7 ?c7 ?k7 ?a8 ?l8 ?c8 ?k8 ?a9 ?l9 ?c9 ?k9 ?a10 ?l10 ?c10 ?k10 ?a11 ?l11 ?c11 ?k11 ?a12 ?l12 ?c12 ?k12 ?a13 ?l13 ?c13 ?k13 ?a14 ?l14 ?c14 ?k14 ?a15 ?l15 ?c15 ?k15 ?a16 ?l16 ?c16 ?k16 ?z_abs ?z_int ?z_len ?z_list ?z_max ?z_min ?z_range ?z_str ?v_MOST_CELLS ?v_MOST_PASSES
    (case a1 => k_is)
    (case l1 => k_is)
    (case c1 => k_is)
    (case k1 => k_is)
    (case a2 => k_is)
    (case l2 => k_is)
    (case c2 => k_is)
    (case k2 => k_is)
    (case a3 => k_is)
    (case l3 => k_is)
    (case c3 => k_is)
    (case k3 => k_is)
    (case a4 => k_is)
    (case l4 => k_is)
    (case c4 => k_is)
    (case k4 => k_is)
    (case a5 => k_is)
    (case l5 => k_is)
    (case c5 => k_is)
    (case k5 => k_is)
    (case a6 => k_is)
    (case l6 => k_is)
    (case c6 => k_is)
    (case k6 => k_is)
    (case a7 => k_is)
    (case l7 => k_is)
    (case c7 => k_is)
    (case k7 => k_is)
    (case a8 => k_is)
    (case l8 => k_is)
    (case c8 => k_is)
    (case k8 => k_is)
    (case a9 => k_is)
    (case l9 => k_is)
    (case c9 => k_is)
    (case k9 => k_is)
    (case a10 => k_is)
    (case l10 => k_is)
    (case c10 => k_is)
    (case k10 => k_is)
    (case a11 => k_is)
    (case l11 => k_is)
    (case c11 => k_is)
    (case k11 => k_is)
    (case a12 => k_is)
    (case l12 => k_is)
    (case c12 => k_is)
    (case k12 => k_is)
    (case a13 => k_is)
    (case l13 => k_is)
    (case c13 => k_is)
    (case k13 => k_is)
    (case a14 => k_is)
    (case l14 => k_is)
    (case c14 => k_is)
    (case k14 => k_is)
    (case a15 => k_is)
    (case l15 => k_is)
    (case c15 => k_is)
    (case k15 => k_is)
    (case a16 => k_is)
    (case l16 => k_is)
    (case c16 => k_is)
    (case k16 => k_is)
    (case z_abs => k_is)
    (case z_int => k_is)
    (case z_len => k_is)
    (case z_list => k_is)
    (case z_max => k_is)
    (case z_min => k_is)
    (case z_range => k_is)
    (case z_str => k_is)
    (case v_MOST_CELLS => k_is)
    (case v_MOST_PASSES => k_is)


