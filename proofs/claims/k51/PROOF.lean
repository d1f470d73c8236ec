import PyProof.Rows.All
import Wide.All
import OpenK.AllK
import Wide.FinOn
import HandS.Base
import HandS.Call
import HandS.List
import HandS.Comp
import HandS.Ends
import HandS.Dict
import HandS.Iter
import HandS.Text
import HandS.Words
import HandS.WordsList
import HandS.Exc
import HandS.TryOnly
import HandS.ExcOwn
import HandS.IsInst
import HandS.Zip
import HandS.Walk
import HandS.Wide
import HandS.Flow
import HandS.Style
import HandS.FStr
import HandS.StrMore
import HandS.Star
import HandS.Conv
import PyProof.ReprRoads
import PyProof.SetRoads
import HandS.ExcIs
import KE.KTryMore
import HandS.WordsExc
import HandS.ExcValue
import HandS.Flt
import PySem.Challenge.RW_pleatpunch_k51_fewest_seen_told
set_option Elab.async false
set_option linter.all false
set_option maxRecDepth 100000
set_option maxHeartbeats 4000000

namespace Xi
open PySem PySem.Spec PyProof.Rows L2

/-! ## room for calls, and nothing is being written out -/
structure Rm (k : Nat) (A : Around) : Prop where
  g : A.guards = some []
  r : Room k A
theorem Rm.mono {j k : Nat} {A : Around} (h : Rm k A) (l : j ≤ k) : Rm j A := ⟨h.g, h.r.mono l⟩

/-- what a def keeps, where nothing is being written out -/
structure Dok (P : Program) (w : World) (K : PySem.W.Frag) (mg : Str → Option Value) (base : Heap) (CX : CXT) (k : Nat) (f : Addr) (fd : FuncData) (ps : List Str) (sp : Sp) : Prop where
  len : ∀ vs H Q E, sp vs H Q E → vs.length = ps.length
  run : ∀ (A : Around) (outer : List Env) (s : Shared) (H : Hp) (args : Args) (us : List Value) (vs : List V) (Q : VK) (E : XK),
    Rm k A → Env0 P w K mg base A outer s H → BindsTo s fd args (ps.zip us) → Vals vs us → sp vs H Q E → codeAny (model P w) A (.call (.ref f) args) (CR CX outer P w H s Q E) s

section
variable {P : Program} {w : World} {K : PySem.W.Frag} {mg : Str → Option Value} {base : Heap} {CX : CXT} {k j : Nat} {f : Addr} {fd : FuncData} {ps : List Str} {sp sp' : Sp}
theorem Dok.mono (F : Dok P w K mg base CX j f fd ps sp) (h : j ≤ k) : Dok P w K mg base CX k f fd ps sp :=
  ⟨F.len, fun A outer s H args us vs Q E hr => F.run A outer s H args us vs Q E (hr.mono h)⟩
theorem Dok.imp (F : Dok P w K mg base CX k f fd ps sp) (h : ∀ vs H Q E, sp' vs H Q E → sp vs H Q E) : Dok P w K mg base CX k f fd ps sp' :=
  ⟨fun vs H Q E q => F.len vs H Q E (h _ _ _ _ q), fun A outer s H args us vs Q E hr he hb hv hs => F.run A outer s H args us vs Q E hr he hb hv (h _ _ _ _ hs)⟩

theorem Dok.body {x qual : Str} {st : Stmt} {N : List Str} (F : Fun K x qual st f fd) (S : FnScope N ps (defScope st)) (len : ∀ vs H Q E, sp vs H Q E → vs.length = ps.length)
    (hb : ∀ (cdv : Value) (A : Around) (outer : List Env) (s : Shared) (H : Hp) (vs : List V) (Q : VK) (E : XK), Rm k (A.deeper (envOfC qual (defScope st) s.heap.objs.size f cdv)) → sp vs H Q E →
      ∃ t, PSs (cxOf CX P w K mg base N qual (defScope st) f cdv A outer s H E) (defBody st) t ∧ t { nx := fun _ H' => Q .non H', rt := Q } (start N vs) H) : Dok P w K mg base CX (k + 1) f fd ps sp := by
  obtain ⟨oc, od, kV, doc, pm, an, cdv, ct, osl, rfl, lk, hcd⟩ := F.ex
  constructor
  · exact len
  intro A outer s H args us vs Q E hr e0 hbd r hsp
  have hl := len _ _ _ _ hsp
  have KX : K.In s.heap := e0.mod.kin.keeps fun b o e => (e0.bs b o e).1
  have lim := e0.mod.nolimit.keeps (h' := s.heap) fun b o e => (e0.bs b o e).1
  have hkind : ∀ y ∈ ps.zip us, (defScope st).names.lookup y.1 = some .local ∨ ((defScope st).names.lookup y.1 = some .cell ∧ ((cellsFrom (s.heap.objs.size + 1) (defScope st).names []).lookup y.1).isSome = true) := by
    rintro ⟨n, v⟩ hy
    have q := S.par n (List.of_mem_zip hy).1
    cases q with
    | inl q => exact Or.inl q
    | inr q => exact Or.inr ⟨q, PySem.W.cellsFrom_some _ _ _ (Or.inl q)⟩
  refine codeAny_call_function hr.r.depth (KX _ _ lk) rfl S.co S.gen rfl (PySem.W.codeRec_of KX hcd) (hbd _ _ _ _ ?_)
  refine wpAny_newFunctionEnv_cells S.kind hkind ?_
  intro env he s1 x
  subst he
  refine ⟨lim.keeps x.toInCall.keep, ?_⟩
  refine codeAny_func ?_
  obtain ⟨t, ht, hq⟩ := hb cdv A outer s H vs Q E ⟨hr.g, hr.r.deeper _⟩ hsp
  have I := inv_start (CX := CX) (P := P) (w := w) (K := K) (mg := mg) (base := base) (f := f) (E := E) S hr.r.hd e0 hl r x
  refine wpAny_mono (ht.run [] s1 (start N vs) H _ I hq) ?_ fun e s' hs => hs
  intro fl s' hs
  cases fl with
  | ret u =>
    obtain ⟨v, σ', H', J, rv, q⟩ := hs
    exact ⟨v, H', J.os, J.bare, J.base, J.hok, rv, q⟩
  | next =>
    obtain ⟨σ', H', J, q⟩ := hs
    exact ⟨V.non, H', J.os, J.bare, J.base, J.hok, rfl, q⟩
  | brk =>
    obtain ⟨_, _, _, q⟩ := hs
    exact q.elim
  | cont =>
    obtain ⟨_, _, _, q⟩ := hs
    exact q.elim
end

/-! ## calls -/
section
variable {X : Cx} {CX : CXT} {k : Nat} {f C : Addr} {fd : FuncData} {ps : List Str} {sp : Sp} {dvs : List V} {ds : List Value} {E : XK} {x m : Str} {p pos apos : Pos} {e o : Expr} {es : List Expr} {ta : TE} {t tk : TA} {kws : List Keyword} {ks : List Str}
  {g : List Value → List Value → List Value} {gV : List V → List V → List V}
theorem Dok.after (F : Dok X.prog X.w X.K X.mg X.base CX k f fd ps sp) (hr : Rm k X.A) (hx : Passes CX X E) {pins : List (Addr × Obj)} {σ : L2.St} {H : Hp} {s : Shared} {Q : VK} {args : Args} {us : List Value} {vs : List V}
    (I : Inv X pins σ H s) (r : Vals vs us) (hb : BindsTo s fd args (ps.zip us)) (h : sp vs H Q E) : codeAny (model X.prog X.w) X.A (.call (.ref f) args) (fun r s' => match r with | .ok (.ret u) => EP X pins σ Q u s' | .ok _ => False | .error e => X.xe e s') s := by
  refine codeAny_mono (F.run X.A X.stack s H args us vs Q E hr I.env0 hb r h) ?_
  intro r s' hq
  cases r with
  | error e => exact hx pins σ H s e s' I hq
  | ok fl =>
    cases fl with
    | ret u => exact I.after hq
    | next => exact hq.elim
    | brk => exact hq.elim
    | cont => exact hq.elim
theorem ends {M : Model} {A : Around} {Q E : Value → Shared → Prop} {v : Value} {us : List Value} {kw : List (Str × Value)} {s : Shared}
    (h : codeAny M A (.call v ⟨us, kw⟩) (fun r s' => match r with | .ok (.ret u) => Q u s' | .ok _ => False | .error e => E e s') s) : wpAny M A (call v us kw) Q E s := by
  refine wpAny_call (codeAny_mono h ?_)
  intro r s' hq
  cases r with
  | error e => exact hq
  | ok fl => cases fl <;> exact hq
/-- f(a, ..) -/
theorem d_call (F : Dok X.prog X.w X.K X.mg X.base CX k f fd ps sp) (hr : Rm k X.A) (hg : Gl X x) (hm : X.mg x = some (.ref f)) (hk : PySem.W.keepIn X.K (.ref f) = true) (hb : Binds X.K fd ps ds) (hd : Vals dvs ds) (hx : Passes CX X E)
    (ha : PA X (e :: es) t) (hdb : (x == ("__debug__" : Str)) = false := by decide) (he : starEach (e :: es) X.env = (false, eval e X.env) :: starEach es X.env := by rfl) (hpl : (backTo pos (starEach es X.env)).any (·.1) = false := by rfl) :
    PE X (.Call (.Name x p) (e :: es) [] pos) (tCall sp dvs E t) := by
  constructor
  intro pins s σ H Q I h
  refine wpAny_Call_Name_kw (ld_glob I hg hm ?_ hdb)
  refine PySem.W.callWith_K (h₀ := X.base) I.ok.mod.kin hk (thn (ha.run pos pins s σ H _ I h) ?_) he hpl
  rintro us s1 ⟨vs, H1, I1, r, q⟩
  refine ⟨I1.kIn, ?_⟩
  have r2 : Vals (vs ++ dvs) (us ++ ds) := r.append hd
  refine ends (F.after hr hx I1 r2 (hb s1 us I1.kIn ?_) q)
  rw [← r2.length]
  exact F.len _ _ _ _ q
/-- f() -/
theorem d_call0 (F : Dok X.prog X.w X.K X.mg X.base CX k f fd ps sp) (hr : Rm k X.A) (hg : Gl X x) (hm : X.mg x = some (.ref f)) (hk : PySem.W.keepIn X.K (.ref f) = true) (hb : Binds X.K fd ps ds) (hd : Vals dvs ds) (hx : Passes CX X E)
    (hdb : (x == ("__debug__" : Str)) = false := by decide) : PE X (.Call (.Name x p) [] [] pos) (tCall sp dvs E tNil) := by
  constructor
  intro pins s σ H Q I h
  refine wpAny_Call_Name_kw (ld_glob I hg hm ?_ hdb)
  refine PySem.W.callWith_K0 I.kIn hk ?_
  have r2 : Vals ([] ++ dvs) ([] ++ ds) := Vals.append .nil hd
  refine ends (F.after hr hx I r2 (hb s [] I.kIn ?_) h)
  rw [← r2.length]
  exact F.len _ _ _ _ h
/-- f(a, .., k = v, ..) -/
theorem d_callK (F : Dok X.prog X.w X.K X.mg X.base CX k f fd ps sp) (hr : Rm k X.A) (hg : Gl X x) (hm : X.mg x = some (.ref f)) (hk : PySem.W.keepIn X.K (.ref f) = true) (hb : KBinds X.K fd ps ks g gV) (hx : Passes CX X E)
    (ha : PA X (e :: es) t) (hkw : PK X kws tk) (hall : (backToKw pos (keywordEach kws X.env)).all (·.1.isSome) = true := by rfl) (hks : (backToKw pos (keywordEach kws X.env)).filterMap (·.1) = ks := by rfl)
    (hdb : (x == ("__debug__" : Str)) = false := by decide) (he : starEach (e :: es) X.env = (false, eval e X.env) :: starEach es X.env := by rfl)
    (hpl : ((backTo pos (starEach (e :: es) X.env)).any (·.1) || (backToKw pos (keywordEach kws X.env)).any (·.1.isNone)) = false := by rfl) :
    PE X (.Call (.Name x p) (e :: es) kws pos) (tCallK sp gV E t tk) := by
  constructor
  intro pins s σ H Q I h
  refine wpAny_Call_Name_kw (ld_glob I hg hm ?_ hdb)
  refine PySem.W.callWith_KW (h₀ := X.base) I.ok.mod.kin hk hall (thn (ha.run pos pins s σ H _ I h) ?_) hpl he
  rintro us s1 ⟨vs, H1, I1, r, q⟩
  refine thn (hkw.run pos pins s1 σ H1 _ I1 q) ?_
  rintro ws s2 ⟨zs, H2, I2, rz, q2⟩
  refine ⟨I2.kIn, ?_⟩
  rw [hks]
  have r2 := hb.rel r rz
  refine ends (F.after hr hx I2 r2 (hb.to s2 us ws I2.kIn ?_) q2)
  rw [← r2.length]
  exact F.len _ _ _ _ q2
/-- f(k = v, ..) -/
theorem d_callN (F : Dok X.prog X.w X.K X.mg X.base CX k f fd ps sp) (hr : Rm k X.A) (hg : Gl X x) (hm : X.mg x = some (.ref f)) (hk : PySem.W.keepIn X.K (.ref f) = true) (hb : KBinds X.K fd ps ks g gV) (hx : Passes CX X E)
    (hkw : PK X kws tk) (hall : (backToKw pos (keywordEach kws X.env)).all (·.1.isSome) = true := by rfl) (hks : (backToKw pos (keywordEach kws X.env)).filterMap (·.1) = ks := by rfl)
    (hdb : (x == ("__debug__" : Str)) = false := by decide)
    (hpl : ((backTo pos (starEach [] X.env)).any (·.1) || (backToKw pos (keywordEach kws X.env)).any (·.1.isNone)) = false := by rfl) :
    PE X (.Call (.Name x p) [] kws pos) (tCallK sp gV E tNil tk) := by
  constructor
  intro pins s σ H Q I h
  refine wpAny_Call_Name_kw (ld_glob I hg hm ?_ hdb)
  refine PySem.W.callWith_KW0 (h₀ := X.base) I.ok.mod.kin hk hall ?_ hpl
  refine thn (hkw.run pos pins s σ H _ I h) ?_
  rintro ws s2 ⟨zs, H2, I2, rz, q2⟩
  refine ⟨I2.kIn, ?_⟩
  rw [hks]
  have r2 := hb.rel (.nil : Vals [] []) rz
  refine ends (F.after hr hx I2 r2 (hb.to s2 [] ws I2.kIn ?_) q2)
  rw [← r2.length]
  exact F.len _ _ _ _ q2
end
end Xi

namespace Xi
open PySem PySem.Spec PyProof.Rows L2
/-! ## the end: a law's def, called with the script -/
section
variable {P : Program} {w : World} {K : PySem.W.Frag} {mg mb : Str → Option Value} {k : Nat} {fa a : Addr} {fd : FuncData} {x : Str} {sp : Sp} {s : Shared} {us : List Value} {ns : List Int}
theorem at_top (KX : K.In s.heap) (n1 : s.heap.Ns mainGlobals mg) (n2 : s.heap.Ns builtinsNs mb) (n3 : ∀ y : Str, y ≠ "__name__" → mb y = bootBuiltins y) (lim : s.heap.NoLimit) (hg : s.gens = #[]) (hr : Rm k callerA)
    (F : ∀ base : Heap, K.In base → base.Ns mainGlobals mg → Dok P w K mg base CX0 k fa fd [x] sp) (hb : ∀ (s : Shared) (u : Value), BindsTo s fd ⟨[u], []⟩ [(x, u)])
    {H : Hp} (ok : HOk P w H s.heap) (one : ∀ b u, H b = some u → b = a ∧ K.lookup a = none ∧ u = .frz { cls := .type "list", data := .seq us.toArray } (.lst (ns.map V.int)))
    (ha : s.heap.get? a = some { cls := .type "list", data := .seq us.toArray }) (h : sp [.ref a] H (fun v _ => v = .bl true) fun _ _ _ => False) :
    codeAny (model P w) callerA (.call (.ref fa) ⟨[.ref a], []⟩) (fun r s' => r = .ok (.ret (.bool true)) ∧ OldK s.heap s'.heap ∧ s'.os = s.os ∧ AllBare s'.gens) s := by
  have free : ∀ {b : Addr} {o : Obj}, s.heap.get? b = some o → b ≠ a ∨ K.lookup a ≠ none → H b = none := by
    intro b o e d
    cases q : H b with
    | none => rfl
    | some u =>
      obtain ⟨e1, e2, _⟩ := one b u q
      cases d with
      | inl d => exact (d e1).elim
      | inr d => exact (d e2).elim
  have low : ∀ {b : Addr} {o : Obj}, s.heap.get? b = some o → H b = none → (hidT s.heap H).get? b = some o := fun e n => hidT_get e n
  have ns_ : ∀ {b : Addr} {m : Str → Option Value}, s.heap.Ns b m → (hidT s.heap H).Ns b m := by
    rintro b m ⟨o, es, ep, e, d, r⟩
    refine ⟨o, es, ep, low e (free e (.inl ?_)), d, r⟩
    rintro rfl
    rw [ha] at e
    cases e
    cases d
  have kin : K.In (hidT s.heap H) := by
    intro b o e
    refine low (KX b o e) (free (KX b o e) ?_)
    by_cases eb : b = a
    · subst eb
      refine .inr fun z => ?_
      rw [z] at e
      cases e
    · exact .inl eb
  have M : Mod K mg (hidT s.heap H) := by
    obtain ⟨mc, h1, h2⟩ := lim
    exact ⟨kin, ns_ n1, ⟨mb, ns_ n2, n3⟩, ⟨mc, ns_ h1, h2⟩⟩
  have e0 : Env0 P w K mg (hidT s.heap H) callerA [] s H := by
    refine ⟨rfl, M, fun b o e => of_hidT e, Nat.le_of_eq (hidT_size _ _), True.intro, ?_, ok, .of_eq hg⟩
    intro b hb
    cases (show b ∈ ([] : List Addr) from hb)
  refine codeAny_mono ((F _ kin (ns_ n1)).run callerA [] s H ⟨[.ref a], []⟩ [.ref a] [.ref a] _ _ hr e0 (hb s (.ref a)) (.cons rfl .nil) h) ?_
  intro r s' hq
  cases r with
  | error e => exact hq.elim
  | ok fl =>
    cases fl with
    | next => exact hq.elim
    | brk => exact hq.elim
    | cont => exact hq.elim
    | ret u =>
      obtain ⟨v, H', os, bare, un, ok', r', q⟩ := hq
      cases (show v = .bl true from q)
      cases (show u = Value.bool true from r')
      refine ⟨rfl, OldK.of_keep ?_, os, bare⟩
      intro b o e
      cases q2 : H b with
      | none =>
        refine un.keep b o e q2 ?_ ?_ <;> (intro z; cases (show b ∈ ([] : List Addr) from z))
      | some u2 =>
        obtain ⟨rfl, _, rfl⟩ := one b u2 q2
        obtain ⟨e2, _⟩ := ok' b _ (un.frzs b _ _ q2)
        rw [ha] at e
        cases e
        exact e2

/-- the heap in which the script alone is tracked -/
def HScr (a : Addr) (us : List Value) (ns : List Int) : Hp := fun b => if b = a then some (.frz { cls := .type "list", data := .seq us.toArray } (.lst (ns.map V.int))) else none

theorem walkX {l : PySem.W.OpenLaw} {n k : Nat} {q : Program} {loose : List Str} {XP : (Str → Option Value) → Heap → Prop} {YP : World → Heap → Prop} {d : DefRec} {K : Params → PySem.W.Frag} {sp : World → Sp} {x : Str}
    (hn : l.most = some n) (hn2 : n ≤ sizeLine) (hdf : d.params.defaults = []) (hr : Rm k callerA) (hY : ∀ (w : World) (h : Heap), YP w h → (K w.params).In h)
    (F : ∀ (w : World) (mg : Str → Option Value) (fa : Addr) (h : Heap), (K w.params).In h → h.Ns mainGlobals mg → mg d.name = some (.ref fa) →
      ∃ fd : FuncData, (∀ (s : Shared) (u : Value), BindsTo s fd ⟨[u], []⟩ [(x, u)]) ∧ ∀ base : Heap, (K w.params).In base → base.Ns mainGlobals mg → Dok l.prog w (K w.params) mg base CX0 k fa fd [x] (sp w))
    (hsp : ∀ (w : World) (H : Hp) (a : Addr) (ns : List Int), ns.length ≤ n → SqL (K w.params) H a (ns.map V.int) → sp w [.ref a] H (fun v _ => v = .bl true) fun _ _ _ => False) :
    PySem.W.WalkO q loose XP YP l.row.toRowW d [] (fun f vs => PySem.call f vs) := by
  refine Att.attach_call hn hdf ?_
  intro w s₀ s₁ mg mb fa o pm cd doc a vs ns G Y ho hd hcd hmg hobj hints hlen hg
  have KX := hY w _ Y
  obtain ⟨fd, hb, hF⟩ := F w mg fa _ KX G.T.g hmg
  have hl : ns.length ≤ sizeLine := Nat.le_trans hlen hn2
  have rv := vals_ints hints
  have lv := hints.length
  cases hk : (K w.params).lookup a with
  | some ob =>
    have e := KX a ob hk
    rw [hobj] at e
    cases e
    refine at_top (us := vs) (ns := ns) (H := fun _ => none) KX G.T.g G.T.b G.T.builtins G.T.nolimit hg hr hF hb (fun _ _ e => by cases e) (fun _ _ e => by cases e) hobj (hsp w _ a ns hlen ?_)
    exact .inr ⟨_, vs.toArray, _, hk, rfl, rfl, rfl, by rw [List.size_toArray, lv]; exact hl, by simpa using rv⟩
  | none =>
    have at_ : HScr a vs ns a = some (.frz { cls := .type "list", data := .seq vs.toArray } (.lst (ns.map V.int))) := if_pos rfl
    refine at_top (us := vs) (ns := ns) (H := HScr a vs ns) KX G.T.g G.T.b G.T.builtins G.T.nolimit hg hr hF hb ?_ ?_ hobj (hsp w _ a ns hlen (.inl (.inr ⟨_, at_⟩)))
    · intro b u e
      by_cases eb : b = a
      · subst eb
        cases at_.symm.trans e
        exact ⟨hobj, by rw [List.length_map]; exact hl, vs, _, rv, hobj⟩
      · cases (if_neg eb).symm.trans e
    · intro b u e
      by_cases eb : b = a
      · subst eb
        cases at_.symm.trans e
        exact ⟨rfl, hk, rfl⟩
      · cases (if_neg eb).symm.trans e
end
end Xi

namespace Xi
open PySem PySem.Spec PyProof.Rows L2
/-! ## the reel: a list of three ints that is drawn from; n: how many draws it is good for -/
def RB (n : Nat) (x y z : Int) : Prop := 0 ≤ x ∧ 0 ≤ y ∧ y < 2 ^ 200 ∧ 0 ≤ z ∧ z + (n : Int) ≤ 1000000000
theorem RB.less {n m : Nat} {x y z : Int} (h : RB n x y z) (l : m ≤ n) : RB m x y z := by
  obtain ⟨a, b, c, d, e⟩ := h
  exact ⟨a, b, c, d, by omega⟩
def reelL (x y z : Int) : HO := .lst [.int x, .int y, .int z]
def ReelO (n : Nat) (p : Addr) : Heap → Prop := fun h => ∃ (x y z : Int) (t1 t2 t3 : Tok) (k : Nat), h.get? p = some { cls := .type "list", data := .seq #[.int x t1, .int y t2, .int z t3] k } ∧ RB n x y z
def rl (n : Nat) (p : Addr) : HO := .ext (ReelO n p)

theorem three_of {x y z : Int} {its : List Value} (h : Vals [.int x, .int y, .int z] its) : ∃ t1 t2 t3, its = [.int x t1, .int y t2, .int z t3] := by
  cases h with
  | cons a h =>
    cases h with
    | cons b h =>
      cases h with
      | cons c h =>
        cases h
        obtain ⟨t1, rfl⟩ := a
        obtain ⟨t2, rfl⟩ := b
        obtain ⟨t3, rfl⟩ := c
        exact ⟨t1, t2, t3, rfl⟩

section
variable {P : Program} {w : World} {K : PySem.W.Frag} {mg : Str → Option Value} {base : Heap} {k : Nat} {f : Addr} {fd : FuncData} {ps : List Str} {sp spX : Sp} {H H1 : Hp} {h : Heap} {p : Addr} {n : Nat} {x y z : Int}
theorem seen_other {o o' : HO} (ok : HOk P w (upd H p o) h) (n1 : ∀ c, o ≠ .own c) (n2 : ∀ xs, o ≠ .tup xs) (at_ : ObjOk P w (upd H p o') h p o') : HOk P w (upd H p o') h := by
  intro b u e
  by_cases eb : b = p
  · subst eb
    rw [upd_same] at e
    cases e
    exact at_
  · rw [upd_ne eb] at e
    refine (ok b u (by rw [upd_ne eb]; exact e)).stay (fun _ _ _ q => q) ?_ ?_
    · intro c q
      by_cases ec : c = p
      · subst ec
        rw [upd_same] at q
        exact (n1 _ (Option.some.inj q)).elim
      · rw [upd_ne ec] at q ⊢
        exact q
    · intro c xs q
      by_cases ec : c = p
      · subst ec
        rw [upd_same] at q
        exact (n2 _ (Option.some.inj q)).elim
      · rw [upd_ne ec] at q ⊢
        exact q
theorem reel_close (ok : HOk P w (upd H p (reelL x y z)) h) (b : RB n x y z) : HOk P w (upd H p (rl n p)) h := by
  refine seen_other ok (fun _ e => by cases e) (fun _ e => by cases e) ?_
  obtain ⟨_, its, m, r, e⟩ := ok p _ upd_same
  obtain ⟨t1, t2, t3, rfl⟩ := three_of r
  refine ⟨⟨x, y, z, t1, t2, t3, m, e, b⟩, ⟨_, e⟩, ?_⟩
  rintro h1 h2 ⟨x, y, z, t1, t2, t3, m, e, b⟩ st
  exact ⟨x, y, z, t1, t2, t3, m, st _ e, b⟩
theorem reel_open (ok : HOk P w H h) (hp : H p = some (rl n p)) : ∃ x y z, RB n x y z ∧ HOk P w (upd H p (reelL x y z)) h := by
  obtain ⟨⟨x, y, z, t1, t2, t3, m, e, b⟩, _⟩ := ok p _ hp
  have eH : upd H p (rl n p) = H := by
    funext c
    unfold upd
    split
    · rename_i q
      rw [q, hp]
    · rfl
  refine ⟨x, y, z, b, ?_⟩
  rw [← eH] at ok
  refine seen_other ok (fun _ q => by cases q) (fun _ q => by cases q) ?_
  exact ⟨by show 3 ≤ sizeLine; decide, [.int x t1, .int y t2, .int z t3], m, .cons ⟨t1, rfl⟩ (.cons ⟨t2, rfl⟩ (.cons ⟨t3, rfl⟩ .nil)), e⟩
/-- the same objects are tracked, what leans on nothing else as it was -/
structure Vw (H H1 : Hp) : Prop where
  n : ∀ b, H b = none ↔ H1 b = none
  t : ∀ b xs, H b = some (.tup xs) ↔ H1 b = some (.tup xs)
  f : ∀ b o u, H b = some (.frz o u) ↔ H1 b = some (.frz o u)
  c : ∀ b ts, H b = some (.tbl ts) ↔ H1 b = some (.tbl ts)
theorem Vw.of {o o' : HO} (hp : H p = some o) (a : (∀ xs, o ≠ .tup xs) ∧ (∀ q u, o ≠ .frz q u) ∧ ∀ ts, o ≠ .tbl ts) (a' : (∀ xs, o' ≠ .tup xs) ∧ (∀ q u, o' ≠ .frz q u) ∧ ∀ ts, o' ≠ .tbl ts) : Vw H (upd H p o') := by
  have core : ∀ b (u : Option HO), (u ≠ some o) → (u ≠ some o') → (H b = u ↔ upd H p o' b = u) := by
    intro b u h1 h2
    by_cases eb : b = p
    · subst eb
      rw [upd_same, hp]
      exact ⟨fun e => (h1 e.symm).elim, fun e => (h2 e.symm).elim⟩
    · rw [upd_ne eb]
  refine ⟨fun b => core b _ (fun e => by cases e) (fun e => by cases e), fun b xs => core b _ (fun e => a.1 xs ?_) (fun e => a'.1 xs ?_), fun b q u => core b _ (fun e => a.2.1 q u ?_) (fun e => a'.2.1 q u ?_), fun b ts => core b _ (fun e => a.2.2 ts ?_) (fun e => a'.2.2 ts ?_)⟩ <;> exact (Option.some.inj e).symm
theorem Vw.un {fs ex : List Addr} {H2 H3 : Hp} {h' : Heap} (v : Vw H H1) (u : Un fs ex H1 H2 h h') (v' : Vw H2 H3) : Un fs ex H H3 h h' :=
  ⟨fun b o e n => u.keep b o e ((v.n b).mp n), fun b o e n => u.slot b o e ((v.n b).mp n), fun b o e n q => (v'.n b).mp (u.free b o e ((v.n b).mp n) q), u.there,
    fun b xs e => (v'.t b xs).mp (u.tups b xs ((v.t b xs).mp e)), fun b o xs e => (v'.f b o xs).mp (u.frzs b o xs ((v.f b o xs).mp e)), fun b ts e => by
      obtain ⟨more, q⟩ := u.tbls b ts ((v.c b ts).mp e)
      exact ⟨more, (v'.c b _).mp q⟩⟩
theorem vw_refl : Vw H H := ⟨fun _ => Iff.rfl, fun _ _ => Iff.rfl, fun _ _ _ => Iff.rfl, fun _ _ => Iff.rfl⟩
theorem vw_close : Vw (upd H p (reelL x y z)) (upd H p (rl n p)) := by
  have e : upd H p (rl n p) = upd (upd H p (reelL x y z)) p (rl n p) := upd_upd.symm
  rw [e]
  exact Vw.of upd_same ⟨fun _ q => (by cases q), fun _ _ q => (by cases q), fun _ q => (by cases q)⟩ ⟨fun _ q => (by cases q), fun _ _ q => (by cases q), fun _ q => (by cases q)⟩
theorem vw_open (hp : H p = some (rl n p)) : Vw H (upd H p (reelL x y z)) :=
  Vw.of hp ⟨fun _ q => (by cases q), fun _ _ q => (by cases q), fun _ q => (by cases q)⟩ ⟨fun _ q => (by cases q), fun _ _ q => (by cases q), fun _ q => (by cases q)⟩
/-- what a def that hands a reel back, as three ints, is worth to those who see the reel alone -/
def QR (Q : VK) : VK := fun v H' => ∃ (H1 : Hp) (p : Addr) (x y z : Int) (n : Nat), RB n x y z ∧ H' = upd H1 p (reelL x y z) ∧ Q v (upd H1 p (rl n p))
theorem ce_reel {outer : List Env} {H' : Hp} {s s' : Shared} {Q : VK} {u : Value} (v : Vw H H') (c : CE outer P w H' s (QR Q) u s') : CE outer P w H s Q u s' := by
  obtain ⟨x, H2, os, bare, un, ok, r, H3, p, a, b, c, n, bd, rfl, q⟩ := c
  exact ⟨x, _, os, bare, v.un un vw_close, reel_close ok bd, r, q⟩
theorem Dok.made (F : Dok P w K mg base CX0 k f fd ps sp) (hs : ∀ vs H Q E, spX vs H Q E → sp vs H (QR Q) E) : Dok P w K mg base CX0 k f fd ps spX := by
  refine ⟨fun vs H Q E e => F.len _ _ _ _ (hs _ _ _ _ e), ?_⟩
  intro A outer s H args us vs Q E hr e0 hb r e
  refine codeAny_mono (F.run A outer s H args us vs _ E hr e0 hb r (hs _ _ _ _ e)) ?_
  intro r s' hq
  cases r with
  | error e => exact hq
  | ok fl =>
    cases fl with
    | ret u => exact ce_reel vw_refl hq
    | next => exact hq
    | brk => exact hq
    | cont => exact hq
theorem Dok.reel (F : Dok P w K mg base CX0 k f fd ps sp) (len : ∀ vs H Q E, spX vs H Q E → vs.length = ps.length)
    (hs : ∀ vs H Q E, spX vs H Q E → ∃ p n, H p = some (rl n p) ∧ ∀ x y z, RB n x y z → sp vs (upd H p (reelL x y z)) (QR Q) E) : Dok P w K mg base CX0 k f fd ps spX := by
  refine ⟨len, ?_⟩
  intro A outer s H args us vs Q E hr e0 hb r e
  obtain ⟨p, n, hp, hs⟩ := hs _ _ _ _ e
  obtain ⟨x, y, z, bd, ok⟩ := reel_open e0.hok hp
  have v : Vw H (upd H p (reelL x y z)) := vw_open hp
  have e1 : Env0 P w K mg base A outer s (upd H p (reelL x y z)) :=
    ⟨e0.frames, e0.mod, fun b o e => ⟨(e0.bs b o e).1, (v.n b).mp (e0.bs b o e).2⟩, e0.bsz, e0.funs, fun b q => (v.n b).mp (e0.frf b q), ok, e0.bare⟩
  refine codeAny_mono (F.run A outer s _ args us vs _ E hr e1 hb r (hs x y z bd)) ?_
  intro r s' hq
  cases r with
  | error e => exact hq
  | ok fl =>
    cases fl with
    | ret u => exact ce_reel v hq
    | next => exact hq
    | brk => exact hq
    | cont => exact hq
end

/-! ## what stays: all that was tracked; all but the reel at p, which falls from n draws to m -/
theorem same_new {H : Hp} {p : Addr} {o : HO} (h : H p = none) : Same H (upd H p o) := fun b x e => by
  rw [upd_ne (ne_of_none e h)]
  exact e
structure Sr (p : Addr) (n m : Nat) (H H' : Hp) : Prop where
  a : H p = some (rl n p)
  b : H' p = some (rl m p)
  s : ∀ b o, b ≠ p → H b = some o → H' b = some o
theorem rl_ne_lst {n : Nat} {p : Addr} {xs : List V} : rl n p ≠ .lst xs := fun e => by cases e
theorem rl_ne_tup {n : Nat} {p : Addr} {xs : List V} : rl n p ≠ .tup xs := fun e => by cases e
theorem rl_ne_frz {n : Nat} {p : Addr} {o : Obj} {u : HO} : rl n p ≠ .frz o u := fun e => by cases e
section
variable {p q : Addr} {n m k : Nat} {H H' H1 H2 : Hp} {xs : List V} {o : HO}
theorem Sr.of (s : Same H H') (h : H p = some (rl n p)) : Sr p n n H H' := ⟨h, s _ _ h, fun b o _ e => s b o e⟩
theorem Sr.refl (h : H p = some (rl n p)) : Sr p n n H H := .of (Same.refl H) h
theorem Sr.trans (a : Sr p n m H H1) (b : Sr p m k H1 H2) : Sr p n k H H2 := ⟨a.a, b.b, fun c o d e => b.s c o d (a.s c o d e)⟩
theorem Sr.then (a : Sr p n m H H1) (b : Same H1 H2) : Sr p n m H H2 := ⟨a.a, b _ _ a.b, fun c o d e => b c o (a.s c o d e)⟩
theorem Sr.new (a : Sr p n m H H1) (h : H1 q = none) : Sr p n m H (upd H1 q o) := a.then (same_new h)
theorem Sr.free (a : Sr p n m H H1) (h : H1 q = none) : H q = none := by
  cases e : H q with
  | none => rfl
  | some o =>
    have d : q ≠ p := fun d => by
      rw [d, a.b] at h
      cases h
    rw [a.s q o d e] at h
    cases h
/-- an object that was not there is changed -/
theorem Sr.mut (a : Sr p n m H H1) (h : H q = none) : Sr p n m H (upd H1 q o) := by
  have d : p ≠ q := ne_of_none a.a h
  refine ⟨a.a, by rw [upd_ne d]; exact a.b, fun b u e1 e2 => ?_⟩
  rw [upd_ne (ne_of_none e2 h)]
  exact a.s b u e1 e2
theorem Sr.lst (a : Sr p n m H H1) (h : H q = some (.lst xs)) : H1 q = some (.lst xs) := a.s _ _ (ne_of h a.a rl_ne_lst.symm) h
theorem Sr.tup (a : Sr p n m H H1) (h : H q = some (.tup xs)) : H1 q = some (.tup xs) := a.s _ _ (ne_of h a.a rl_ne_tup.symm) h
theorem Sr.seq {K : PySem.W.Frag} (a : Sr p n m H H1) (h : SqL K H q xs) : SqL K H1 q xs := by
  rcases h with (h | ⟨o, h⟩) | h
  · exact .inl (.inl (a.lst h))
  · exact .inl (.inr ⟨o, a.s _ _ (ne_of h a.a rl_ne_frz.symm) h⟩)
  · exact .inr h
theorem same_mut {H0 : Hp} (a : Same H0 H1) (h : H0 q = none) : Same H0 (upd H1 q o) := fun b u e => by
  rw [upd_ne (ne_of_none e h)]
  exact a b u e
end
theorem same_old {H H1 H2 : Hp} {p : Addr} {n m : Nat} (s : Same H H1) (r : Sr p n m H1 H2) (h : H p = none) : Same H H2 := fun b o e =>
  r.s b o (ne_of_none e h) (s b o e)

/-! ## data, all of it tracked -/
mutual
inductive Dt (H : Hp) : V → PyData → Prop
  | non : Dt H .non .none
  | bl (b : Bool) : Dt H (.bl b) (.bool b)
  | int (i : Int) : Dt H (.int i) (.int i)
  | str (x : Str) : Dt H (.str x) (.str x)
  | lst {a : Addr} {xs : List V} {ds : List PyData} : H a = some (.lst xs) → DtAll H xs ds → Dt H (.ref a) (.list ds)
  | tup {a : Addr} {xs : List V} {ds : List PyData} : H a = some (.tup xs) → DtAll H xs ds → Dt H (.ref a) (.tuple ds)
inductive DtAll (H : Hp) : List V → List PyData → Prop
  | nil : DtAll H [] []
  | cons {v : V} {vs : List V} {d : PyData} {ds : List PyData} : Dt H v d → DtAll H vs ds → DtAll H (v :: vs) (d :: ds)
end
section
variable {H H' : Hp}
mutual
theorem Dt.keep (k1 : ∀ b xs, H b = some (.lst xs) → H' b = some (.lst xs)) (k2 : ∀ b xs, H b = some (.tup xs) → H' b = some (.tup xs)) : ∀ {d : PyData} {v : V}, Dt H v d → Dt H' v d
  | .none, _, h => by cases h; exact .non
  | .bool _, _, h => by cases h; exact .bl _
  | .int _, _, h => by cases h; exact .int _
  | .str _, _, h => by cases h; exact .str _
  | .list ds, _, h => by
    cases h with
    | lst e r => exact .lst (k1 _ _ e) (DtAll.keep k1 k2 r)
  | .tuple ds, _, h => by
    cases h with
    | tup e r => exact .tup (k2 _ _ e) (DtAll.keep k1 k2 r)
  | .dict _, _, h => by cases h
theorem DtAll.keep (k1 : ∀ b xs, H b = some (.lst xs) → H' b = some (.lst xs)) (k2 : ∀ b xs, H b = some (.tup xs) → H' b = some (.tup xs)) : ∀ {ds : List PyData} {vs : List V}, DtAll H vs ds → DtAll H' vs ds
  | [], _, h => by cases h; exact .nil
  | d :: ds, _, h => by
    cases h with
    | cons a r => exact .cons (Dt.keep k1 k2 a) (DtAll.keep k1 k2 r)
end
theorem Dt.same {v : V} {d : PyData} (h : Dt H v d) (s : Same H H') : Dt H' v d := h.keep (fun b xs => s b _) fun b xs => s b _
theorem DtAll.same {vs : List V} {ds : List PyData} (h : DtAll H vs ds) (s : Same H H') : DtAll H' vs ds := h.keep (fun b xs => s b _) fun b xs => s b _
theorem Dt.sr {v : V} {d : PyData} {p : Addr} {n m : Nat} (h : Dt H v d) (s : Sr p n m H H') : Dt H' v d := h.keep (fun b xs => s.lst) fun b xs => s.tup
theorem DtAll.sr {vs : List V} {ds : List PyData} {p : Addr} {n m : Nat} (h : DtAll H vs ds) (s : Sr p n m H H') : DtAll H' vs ds := h.keep (fun b xs => s.lst) fun b xs => s.tup
theorem DtAll.len : ∀ {vs : List V} {ds : List PyData}, DtAll H vs ds → vs.length = ds.length
  | _, [], h => by cases h; rfl
  | _, d :: ds, h => by
    cases h with
    | cons a r => simp [DtAll.len r]
theorem DtAll.get : ∀ {vs : List V} {ds : List PyData} {i : Nat} {d : PyData}, DtAll H vs ds → ds[i]? = some d → ∃ v, vs[i]? = some v ∧ Dt H v d
  | _, [], _, _, h, e => by simp at e
  | _, d :: ds, 0, d', h, e => by
    cases h with
    | cons a r =>
      simp at e
      subst e
      exact ⟨_, rfl, a⟩
  | _, d :: ds, i + 1, d', h, e => by
    cases h with
    | cons a r =>
      obtain ⟨v, e1, h1⟩ := DtAll.get (i := i) r (by simpa using e)
      exact ⟨v, by simpa using e1, h1⟩
theorem DtAll.append : ∀ {vs ws : List V} {ds es : List PyData}, DtAll H vs ds → DtAll H ws es → DtAll H (vs ++ ws) (ds ++ es)
  | _, _, [], _, h, g => by cases h; exact g
  | _, _, d :: ds, _, h, g => by
    cases h with
    | cons a r => exact .cons a (DtAll.append r g)
theorem DtAll.take : ∀ {vs : List V} {ds : List PyData} (n : Nat), DtAll H vs ds → DtAll H (vs.take n) (ds.take n)
  | _, _, 0, _ => by simp only [List.take_zero]; exact .nil
  | _, [], _ + 1, h => by cases h; exact .nil
  | _, d :: ds, n + 1, h => by
    cases h with
    | cons a r => exact .cons a (DtAll.take n r)
theorem DtAll.drop : ∀ {vs : List V} {ds : List PyData} (n : Nat), DtAll H vs ds → DtAll H (vs.drop n) (ds.drop n)
  | _, _, 0, h => h
  | _, [], _ + 1, h => by cases h; exact .nil
  | _, d :: ds, n + 1, h => by
    cases h with
    | cons a r => exact DtAll.drop n r
theorem DtAll.one {v : V} {d : PyData} (h : Dt H v d) : DtAll H [v] [d] := .cons h .nil
theorem DtAll.reverse : ∀ {vs : List V} {ds : List PyData}, DtAll H vs ds → DtAll H vs.reverse ds.reverse
  | _, [], h => by cases h; exact .nil
  | _, d :: ds, h => by
    cases h with
    | cons a r =>
      rw [List.reverse_cons, List.reverse_cons]
      exact (DtAll.reverse r).append (.one a)
mutual
theorem Dt.dp {K : PySem.W.Frag} : ∀ {d : PyData} {v : V}, Dt H v d → Dp K H v d
  | .none, _, h => by cases h; exact .non
  | .bool _, _, h => by cases h; exact .bl _
  | .int _, _, h => by cases h; exact .int _
  | .str _, _, h => by cases h; exact .str _
  | .list ds, _, h => by
    cases h with
    | lst e r => exact .lst (SqL.of e) (DtAll.dp r)
  | .tuple ds, _, h => by
    cases h with
    | tup e r => exact .tup (SqT.of e) (DtAll.dp r)
  | .dict _, _, h => by cases h
theorem DtAll.dp {K : PySem.W.Frag} : ∀ {ds : List PyData} {vs : List V}, DtAll H vs ds → DpAll K H vs ds
  | [], _, h => by cases h; exact .nil
  | d :: ds, _, h => by
    cases h with
    | cons a r => exact .cons (Dt.dp a) (DtAll.dp r)
end
end
end Xi

namespace Xi
open PySem PySem.Spec PyProof.Rows L2
/-! ## a def of the text by its name -/
structure Own (K : PySem.W.Frag) (mg : Str → Option Value) (x : Str) (st : Stmt) (ps : List Str) (f : Addr) (fd : FuncData) : Prop where
  F : Fun K x x st f fd
  g : mg x = some (.ref f)
  b : Binds K fd ps []
/-- a def that keeps its promise, by its name -/
def Cal (P : Program) (w : World) (K : PySem.W.Frag) (mg : Str → Option Value) (base : Heap) (CX : CXT) (k : Nat) (x : Str) (st : Stmt) (ps : List Str) (sp : Sp) : Prop :=
  ∃ f fd, Own K mg x st ps f fd ∧ Dok P w K mg base CX k f fd ps sp
section
variable {P : Program} {w : World} {K : PySem.W.Frag} {mg : Str → Option Value} {base : Heap} {CX : CXT} {k j : Nat} {f : Addr} {fd : FuncData} {ps ks N : List Str} {sp sp' : Sp} {x : Str} {st : Stmt}
theorem Cal.mono (c : Cal P w K mg base CX j x st ps sp) (h : j ≤ k) : Cal P w K mg base CX k x st ps sp := by
  obtain ⟨f, fd, o, d⟩ := c
  exact ⟨f, fd, o, d.mono h⟩
theorem Cal.imp (c : Cal P w K mg base CX k x st ps sp) (h : ∀ vs H Q E, sp' vs H Q E → sp vs H Q E) : Cal P w K mg base CX k x st ps sp' := by
  obtain ⟨f, fd, o, d⟩ := c
  exact ⟨f, fd, o, d.imp h⟩
/-- a def from which no exception goes out -/
theorem Dok.calm (F : Fun K x x st f fd) (S : FnScope N ps (defScope st)) (len : ∀ vs H Q E, sp vs H Q E → vs.length = ps.length)
    (hb : ∀ (cdv : Value) (A : Around) (outer : List Env) (s : Shared) (H : Hp) (vs : List V) (Q : VK) (E : XK), Rm k (A.deeper (envOfC x (defScope st) s.heap.objs.size f cdv)) → sp vs H Q E →
      ∃ t, PSs (cxOf CX0 P w K mg base N x (defScope st) f cdv A outer s H E).nox (defBody st) t ∧ t { nx := fun _ H' => Q .non H', rt := Q } (start N vs) H) : Dok P w K mg base CX0 (k + 1) f fd ps sp := by
  refine Dok.body F S len fun cdv A outer s H vs Q E hr h => ?_
  obtain ⟨t, a, b⟩ := hb cdv A outer s H vs Q E hr h
  exact ⟨t, a.nox, b⟩
theorem kbOf {g : List Value → List Value → List Value} {gV : List V → List V → List V} (F : Fun K x x st f fd)
    (h : ∀ (kV doc pm : Value) (an : Option Addr) (cdv ct : Value) (us ws : List Value), (g us ws).length = ps.length →
      bindArgs (PySem.W.fnOf x x (defArgs st) (defBody st) (defScope st) .none kV doc pm an cdv ct) ⟨us, ks.zip ws⟩ = pure (ps.zip (g us ws)))
    (rel : ∀ {vs : List V} {us : List Value} {zs : List V} {ws : List Value}, Vals vs us → Vals zs ws → Vals (gV vs zs) (g us ws)) : KBinds K fd ps ks g gV := by
  obtain ⟨oc, od, kV, doc, pm, an, cdv, ct, osl, rfl, lk, hcd⟩ := F.ex
  exact ⟨fun s us ws _ hl => .of_eq (h kV doc pm an cdv ct us ws hl), rel⟩
end
section
variable {X : Cx} {CX : CXT} {k : Nat} {ps : List Str} {sp : Sp} {E : XK} {x : Str} {st : Stmt} {p pos : Pos} {e : Expr} {es : List Expr} {t tk : TA} {kws : List Keyword} {ks : List Str}
  {g : List Value → List Value → List Value} {gV : List V → List V → List V}
theorem c_call (c : Cal X.prog X.w X.K X.mg X.base CX k x st ps sp) (hr : Rm k X.A) (hx : Passes CX X E) (ha : PA X (e :: es) t) (hg : Gl X x := by rfl)
    (hdb : (x == ("__debug__" : Str)) = false := by decide) (he : starEach (e :: es) X.env = (false, eval e X.env) :: starEach es X.env := by rfl) (hpl : (backTo pos (starEach es X.env)).any (·.1) = false := by rfl) :
    PE X (.Call (.Name x p) (e :: es) [] pos) (tCall sp [] E t) := by
  obtain ⟨f, fd, o, d⟩ := c
  exact d_call d hr hg o.g o.F.kp o.b .nil hx ha hdb he hpl
theorem c_call0 (c : Cal X.prog X.w X.K X.mg X.base CX k x st ps sp) (hr : Rm k X.A) (hx : Passes CX X E) (hg : Gl X x := by rfl) (hdb : (x == ("__debug__" : Str)) = false := by decide) :
    PE X (.Call (.Name x p) [] [] pos) (tCall sp [] E tNil) := by
  obtain ⟨f, fd, o, d⟩ := c
  exact d_call0 d hr hg o.g o.F.kp o.b .nil hx hdb
theorem c_callK (c : Cal X.prog X.w X.K X.mg X.base CX k x st ps sp) (hr : Rm k X.A) (hx : Passes CX X E) (ha : PA X (e :: es) t) (hkw : PK X kws tk)
    (h : ∀ (kV doc pm : Value) (an : Option Addr) (cdv ct : Value) (us ws : List Value), (g us ws).length = ps.length →
      bindArgs (PySem.W.fnOf x x (defArgs st) (defBody st) (defScope st) .none kV doc pm an cdv ct) ⟨us, ks.zip ws⟩ = pure (ps.zip (g us ws)))
    (rel : ∀ {vs : List V} {us : List Value} {zs : List V} {ws : List Value}, Vals vs us → Vals zs ws → Vals (gV vs zs) (g us ws)) (hg : Gl X x := by rfl)
    (hall : (backToKw pos (keywordEach kws X.env)).all (·.1.isSome) = true := by rfl) (hks : (backToKw pos (keywordEach kws X.env)).filterMap (·.1) = ks := by rfl)
    (hdb : (x == ("__debug__" : Str)) = false := by decide) (he : starEach (e :: es) X.env = (false, eval e X.env) :: starEach es X.env := by rfl)
    (hpl : ((backTo pos (starEach (e :: es) X.env)).any (·.1) || (backToKw pos (keywordEach kws X.env)).any (·.1.isNone)) = false := by rfl) :
    PE X (.Call (.Name x p) (e :: es) kws pos) (tCallK sp gV E t tk) := by
  obtain ⟨f, fd, o, d⟩ := c
  exact d_callK d hr hg o.g o.F.kp (kbOf o.F h rel) hx ha hkw hall hks hdb he hpl
theorem c_callN (c : Cal X.prog X.w X.K X.mg X.base CX k x st ps sp) (hr : Rm k X.A) (hx : Passes CX X E) (hkw : PK X kws tk)
    (h : ∀ (kV doc pm : Value) (an : Option Addr) (cdv ct : Value) (us ws : List Value), (g us ws).length = ps.length →
      bindArgs (PySem.W.fnOf x x (defArgs st) (defBody st) (defScope st) .none kV doc pm an cdv ct) ⟨us, ks.zip ws⟩ = pure (ps.zip (g us ws)))
    (rel : ∀ {vs : List V} {us : List Value} {zs : List V} {ws : List Value}, Vals vs us → Vals zs ws → Vals (gV vs zs) (g us ws)) (hg : Gl X x := by rfl)
    (hall : (backToKw pos (keywordEach kws X.env)).all (·.1.isSome) = true := by rfl) (hks : (backToKw pos (keywordEach kws X.env)).filterMap (·.1) = ks := by rfl)
    (hdb : (x == ("__debug__" : Str)) = false := by decide)
    (hpl : ((backTo pos (starEach [] X.env)).any (·.1) || (backToKw pos (keywordEach kws X.env)).any (·.1.isNone)) = false := by rfl) :
    PE X (.Call (.Name x p) [] kws pos) (tCallK sp gV E tNil tk) := by
  obtain ⟨f, fd, o, d⟩ := c
  exact d_callN d hr hg o.g o.F.kp (kbOf o.F h rel) hx hkw hall hks hdb hpl
/-- a whole number of the module's own -/
theorem c_const {i : Int} (h : ∃ t, X.mg x = some (.int i t)) (hg : Gl X x := by rfl) (hd : (x == ("__debug__" : Str)) = false := by decide) : PE X (.Name x p) (tC (.int i)) := by
  obtain ⟨t, h⟩ := h
  exact pe_glob (hd := hd) hg h ⟨_, rfl⟩
/-! ## a power of a great number -/
theorem op_powW : OpR X (binaryOp .Pow) (rI (fun i j => 0 ≤ j ∧ (Builtin.Int.intBits i : Int) * j ≤ 2 ^ 27) fun i j => .int (i ^ j.toNat)) :=
  opI fun _ _ _ _ _ _ _ hc q => pow_int hc.1 hc.2 q
end
theorem tyes {σ : L2.St} {H : Hp} {Q : Bool → Hp → Prop} (h : Q true H) : tYes σ H Q := h
section
variable {K : PySem.W.Frag} {a b : Addr} {xs ys : List V}
open RZ in
theorem walk_zipT {n : Nat} (hn : n = min xs.length ys.length) : Walk (ItzT K a b) n (fun H => SqT K H a xs ∧ SqT K H b ys) (YPair (fun i => xs[i]?) (fun i => ys[i]?)) := by
  subst hn
  constructor
  · intro i H hi q
    have h1 : i < xs.length := by omega
    have h2 : i < ys.length := by omega
    exact ⟨xs, ys, xs[i], ys[i], q.1, q.2, by simp [h1], by simp [h2]⟩
  · intro H q
    exact ⟨xs, ys, q.1, q.2, by omega⟩
  · intro i H v H' hi q y
    obtain ⟨T, x, z, h1, h2, h3, h4, h5⟩ := y
    exact ⟨T, x, z, h1, h2, h3, h4 xs q.1, h5 ys q.2⟩
end
end Xi
namespace Xi
open PySem PySem.Spec PyProof.Rows L2
/-! ## within a comprehension: the written part told outright -/
def rLenX (K : PySem.W.Frag) : List V → Hp → VK → Prop := fun vs H Q => ∃ p ys, vs = [.ref p] ∧ (SqL K H p ys ∨ SqT K H p ys) ∧ Q (.int ys.length) H
section
variable {X : Cx} {K : PySem.W.Frag}
theorem kc_len (e : X.K = K) : CallR X (.builtin "len") (rLenX K) := by
  subst e
  exact call_len_seq
theorem kc_isi (e : X.K = K) : CallR X (.builtin "isinstance") (rIsi K) := by
  subst e
  exact call_isi
theorem kc_isiT (e : X.K = K) : CallR X (.builtin "isinstance") (rIsiT K) := by
  subst e
  exact call_isiT
theorem kc_all (e : X.K = K) (hc : X.calm = true) : CallR X (.builtin "all") (rAll K) := by
  subst e
  exact cr_all hc
theorem k_ixL (e : X.K = K) : IxR X (rIxL K) := by
  subst e
  exact ix_list
theorem k_ixT (e : X.K = K) : IxR X (rIxT K) := by
  subst e
  exact ix_tup
theorem k_eqD (e : X.K = K) (hu : X.A.units + 64 < cLine) : OpR X (compareOp .Eq) (rEqD K) := by
  subst e
  exact op_eqD hu
theorem k_neD (e : X.K = K) (hu : X.A.units + 64 < cLine) : OpR X (compareOp .NotEq) (rNeD K) := by
  subst e
  exact op_neD hu
theorem k_inSeq (e : X.K = K) : OpR X (compareOp .In) (rIn K false) := by
  subst e
  exact op_in_seq
theorem k_niSeq (e : X.K = K) : OpR X (compareOp .NotIn) (rIn K true) := by
  subst e
  exact op_notIn_seq
theorem k_slL (e : X.K = K) : SlR X (rSlL K) := by
  subst e
  exact sl_list
end
end Xi
namespace Xi
open PySem PySem.Spec PyProof.Rows L2
/-! ## parts of a list -/
theorem cut_to {xs : List V} (k : Nat) : cutV xs none (some (k : Int)) = xs.take k := by
  unfold cutV
  rw [HT.sIx_nat, HT.sIx_none, List.drop_zero, Nat.sub_zero]
  rcases Nat.le_total k xs.length with h | h
  · rw [Nat.min_eq_left h]
  · rw [Nat.min_eq_right h, List.take_of_length_le h, List.take_of_length_le (Nat.le_refl _)]
theorem cut_from {xs : List V} (k : Nat) : cutV xs (some (k : Int)) none = xs.drop k := by
  unfold cutV
  rw [HT.sIx_nat, HT.sIx_none]
  rcases Nat.le_total k xs.length with h | h
  · rw [Nat.min_eq_left h]
    exact List.take_of_length_le (by rw [List.length_drop]; exact Nat.le_refl _)
  · rw [Nat.min_eq_right h, List.drop_of_length_le (Nat.le_refl _), List.drop_of_length_le h]
    exact List.take_nil
end Xi
namespace Xi
open PySem PySem.Spec PyProof.Rows L2
/-! ## data that may be compared -/
def shp : Nat → PyData → Prop
  | _, .none => True
  | _, .bool _ => True
  | _, .int _ => True
  | _, .str x => PyData.strOk x = true
  | 0, _ => False
  | n + 1, .list ds => ∀ d ∈ ds, shp n d
  | n + 1, .tuple ds => ∀ d ∈ ds, shp n d
  | _ + 1, .dict _ => False
theorem lay_all : ∀ {ds : List PyData}, (∀ d ∈ ds, d.canLay0 = true) → PyData.canLayAll0 ds = true
  | [], _ => rfl
  | d :: ds, h => by
    show (d.canLay0 && PyData.canLayAll0 ds) = true
    rw [h d List.mem_cons_self, lay_all fun x hx => h x (List.mem_cons_of_mem _ hx)]
    rfl
theorem deep_all {n : Nat} : ∀ {ds : List PyData}, (∀ d ∈ ds, d.depth ≤ n) → PyData.depthAll ds ≤ n
  | [], _ => Nat.zero_le _
  | d :: ds, h => by
    have h1 := h d List.mem_cons_self
    have h2 := deep_all (ds := ds) fun x hx => h x (List.mem_cons_of_mem _ hx)
    show max d.depth (PyData.depthAll ds) ≤ n
    omega
theorem shp_ok : ∀ {n : Nat} {d : PyData}, shp n d → d.canLay0 = true ∧ d.depth ≤ n + 1
  | _, .none, _ => ⟨rfl, by show 0 ≤ _; omega⟩
  | _, .bool _, _ => ⟨rfl, by show 0 ≤ _; omega⟩
  | _, .int _, _ => ⟨rfl, by show 0 ≤ _; omega⟩
  | 0, .str x, h => ⟨h, by show 0 ≤ _; omega⟩
  | _ + 1, .str x, h => ⟨h, by show 0 ≤ _; omega⟩
  | n + 1, .list ds, h => by
    have hh : ∀ d ∈ ds, shp n d := h
    refine ⟨lay_all fun d hd => (shp_ok (hh d hd)).1, ?_⟩
    have := deep_all (n := n + 1) fun d hd => (shp_ok (hh d hd)).2
    show PyData.depthAll ds + 1 ≤ _
    omega
  | n + 1, .tuple ds, h => by
    have hh : ∀ d ∈ ds, shp n d := h
    refine ⟨lay_all fun d hd => (shp_ok (hh d hd)).1, ?_⟩
    have := deep_all (n := n + 1) fun d hd => (shp_ok (hh d hd)).2
    show PyData.depthAll ds + 1 ≤ _
    omega
  | 0, .list _, h => h.elim
  | 0, .tuple _, h => h.elim
  | 0, .dict _, h => h.elim
  | _ + 1, .dict _, h => h.elim
theorem shaped_of {n : Nat} {d : PyData} (h : shp n d) (hn : n ≤ 60 := by decide) : SeqAt.shaped d = true := by
  have a := shp_ok h
  unfold SeqAt.shaped
  rw [a.1, decide_eq_true (show d.depth ≤ 64 by omega)]
  rfl
theorem shp_list {n : Nat} {ds : List PyData} (h : ∀ d ∈ ds, shp n d) : shp (n + 1) (.list ds) := h
theorem shp_tup {n : Nat} {ds : List PyData} (h : ∀ d ∈ ds, shp n d) : shp (n + 1) (.tuple ds) := h
section
variable {K : PySem.W.Frag} {x y : V} {H : Hp} {d : PyData} {n : Nat} {Q : VK}
theorem eqD (h1 : Dt H x d) (h2 : Dt H y d) (s : shp n d) (q : Q (.bl true) H) (hn : n ≤ 60 := by decide) : rEqD K x y H Q := by
  refine ⟨d, d, h1.dp, h2.dp, shaped_of s hn, shaped_of s hn, ?_⟩
  rw [SeqAt.eqv_refl d (shp_ok s).1]
  exact q
theorem neD (h1 : Dt H x d) (h2 : Dt H y d) (s : shp n d) (q : Q (.bl false) H) (hn : n ≤ 60 := by decide) : rNeD K x y H Q := by
  refine ⟨d, d, h1.dp, h2.dp, shaped_of s hn, shaped_of s hn, ?_⟩
  rw [SeqAt.eqv_refl d (shp_ok s).1]
  exact q
theorem dt_strs : ∀ (ws : List Str), DtAll H (ws.map V.str) (ws.map PyData.str)
  | [] => .nil
  | w :: ws => .cons (.str w) (dt_strs ws)
theorem dt_ints : ∀ (ns : List Int), DtAll H (ns.map V.int) (ns.map PyData.int)
  | [] => .nil
  | w :: ws => .cons (.int w) (dt_ints ws)
end
end Xi
namespace Xi
open PySem PySem.Spec PyProof.Rows L2
/-- data of at most n levels, no list too long -/
def dep : Nat → PyData → Prop
  | _, .none => True
  | _, .bool _ => True
  | _, .int _ => True
  | _, .str _ => True
  | 0, _ => False
  | n + 1, .list ds => ds.length ≤ 100000 ∧ ∀ d ∈ ds, dep n d
  | n + 1, .tuple ds => ds.length ≤ 100000 ∧ ∀ d ∈ ds, dep n d
  | _ + 1, .dict _ => False
theorem long_ok {n : Nat} (h : n ≤ 100000) : n < sizeLine := Nat.lt_of_le_of_lt h (by decide)
end Xi
namespace Xi
open PySem PySem.Spec PyProof.Rows L2
/-- what stands behind a statement, proved once -/
theorem with_nx {t : TS} {D : Ends} {σ : L2.St} {H : Hp} (W : L2.St → Hp → Prop) (h1 : ∀ σ H, W σ H → D.nx σ H) (h2 : (∀ σ H, W σ H → D.nx σ H) → t D σ H) : t D σ H := h2 h1
theorem rg_ints (n : Nat) : rgV 0 (n : Int) = ((List.range n).map (fun i : Nat => (i : Int))).map V.int := by
  unfold rgV
  rw [List.map_map, Int.sub_zero, Int.toNat_natCast]
  refine List.map_congr_left fun i _ => ?_
  show V.int (0 + (i : Int)) = V.int (i : Int)
  rw [Int.zero_add]
end Xi
namespace Xi
open PySem PySem.Spec PyProof.Rows L2
theorem ext_tup (l : Addr) (xs : Array Value) (n : Nat) (b : Addr) (ys : Array Value) (m : Nat) (dd : Option Addr) (sl : Array (Option Value)) (h0 : ¬(!xs.isEmpty && Builtin.List.listTooLong (xs.size + ys.size)) = true) (h1 : xs.size ≤ sizeLine) (h2 : xs.size + ys.size ≤ sizeLine + 1) :
    Meets (Builtin.«list.extend» ⟨[.ref l, .ref b], []⟩) (fun _ R s => s.heap.get? l = some { cls := .type "list", data := .seq xs n } ∧ s.heap.get? b = some { cls := .type "tuple", dict := dd, data := .seq ys m, slots := sl } ∧ R (.ok (.ret Value.none)) { s with heap := s.heap.update l (Obj.mapSeq fun x => x ++ ys), toks := s.toks }) :=
  .of_wp fun prog w A R s h => by
    obtain ⟨hp, g, d, tk, os⟩ := s
    obtain ⟨hl, hb, h⟩ := h
    have e1 := AutoSeq1.idx_int
    have e2 := AutoSeq1.sub_tuple_tuple
    have e3 := AutoSeq1.sub_list_list
    have e4 := AutoSeq1.sub_tuple_list
    have e5 := AutoSeq1.sub_list_tuple
    have hz' : (xs ++ ys).size ≤ sizeLine + 1 := by
      rw [Array.size_append]
      exact h2
    wp_walk using (wpAny_updateSeq hl rfl (hz := h1) (_hz' := hz')), AutoSeq1.wpAny_loadPart' hl, AutoSeq1.wpAny_loadPart' hb
    exact ⟨_, rfl, h⟩
section
variable {X : Cx}
def rExtendT (K : PySem.W.Frag) : V → List V → Hp → VK → Prop := fun x vs H Q => ∃ l b xs zs, x = .ref l ∧ vs = [.ref b] ∧ H l = some (.lst xs) ∧ SqT K H b zs ∧ xs.length + zs.length ≤ sizeLine ∧ Q .non (upd H l (.lst (xs ++ zs)))
theorem mt_extendT : MtM X "list.extend" (rExtendT X.K) := by
  intro pins s σ H x vs v us Q I rx rv h
  obtain ⟨l, b, xs, zs, rfl, rfl, hH, hB, hz, q⟩ := h
  cases rx
  obtain ⟨u, rfl, ru⟩ := rv.one
  cases ru
  obtain ⟨z, its, n, r, hl, e⟩ := I.lstM hH
  obtain ⟨ws, r2, ⟨o, h1, h2, m, h3⟩, hz2⟩ := I.tuple hB
  obtain ⟨oc, od, dt, sl⟩ := o
  simp only at h2 h3
  subst h2 h3
  have hl2 := r2.length
  have hsz : its.toArray.size + ws.toArray.size ≤ sizeLine := by
    rw [List.size_toArray, List.size_toArray]
    omega
  have short : ¬ (!its.toArray.isEmpty && Builtin.List.listTooLong (its.toArray.size + ws.toArray.size)) = true := by
    rw [notLongL hsz, Bool.and_false]
    exact Bool.false_ne_true
  refine call_meets F.slot_list_extend ⟨_, e, rfl⟩ F.entry_list_extend (F.args_list_extend_2 _ _) (ext_tup l its.toArray n b ws.toArray m od sl short (by rw [List.size_toArray]; omega) (by omega)) ⟨e, h1, ?_⟩
  refine ⟨.non, _, I.lset (its' := its ++ ws) hH e (by simp) (r.append r2) ?_, rfl, q⟩
  rw [List.length_append]
  omega
end
end Xi

namespace Xi
open PySem PySem.Spec PyProof.Rows L2
/-! ## a datum written out -/
def rRepr (K : PySem.W.Frag) : List V → Hp → VK → Prop := fun xs H Q => ∃ (a : Addr) (d : PyData), xs = [.ref a] ∧ Dp K H (.ref a) d ∧ d.showable = true ∧ SeqAt.shaped d = true ∧ d.shown.length ≤ sizeLine ∧ Q (.str d.shown) H
section
variable {X : Cx} {K : PySem.W.Frag} {k : Nat}
theorem kc_repr (e : X.K = K) (hr : Rm k X.A) : CallR X (.builtin "repr") (rRepr K) := by
  subst e
  intro pins s σ H xs us Q I r h
  obtain ⟨a, d, rfl, hd, h1, h2, h3, q⟩ := h
  obtain ⟨u, rfl, ru⟩ : ∃ u, us = [u] ∧ RelV (.ref a) u := by
    cases r with
    | cons x y =>
      cases y
      exact ⟨_, rfl, x⟩
  cases (show u = Value.ref a from ru)
  obtain ⟨as, rd⟩ := Dp.reads I d _ _ hd rfl
  have nd := PyData.hasDict_of_canLay d (SeqAt.canLay_of_shaped h2)
  have dp := SeqAt.depth_of_shaped h2
  have un := hr.r.un
  refine repr_of_reads' rd h1 (fun z => by rw [nd] at z; cases z) hr.g (by omega) (fun b o e => e) (fun h' u tk keep => ?_) h3
  exact ⟨.str d.shown, H, I.kept (t' := tk) keep, ⟨u, rfl⟩, q⟩
/-! ## a set of whole numbers -/
def rSetI (K : PySem.W.Frag) : List V → Hp → VK → Prop := fun xs H Q => ∃ (l : Addr) (ns : List Int), xs = [.ref l] ∧ SqL K H l (ns.map V.int) ∧ ns.length ≤ 4000 ∧ ∀ p S n, H p = none → (∀ z, S z = decide (z ∈ ns)) → Q (.ref p) (upd H p (.set S n))
theorem kc_setI (e : X.K = K) (hc : X.calm = true) : CallR X (.type "set") (rSetI K) := by
  subst e
  intro pins s σ H xs us Q I r h
  obtain ⟨l, ns, rfl, hl, hz, q⟩ := h
  obtain ⟨u, rfl, ru⟩ : ∃ u, us = [u] ∧ RelV (.ref l) u := by
    cases r with
    | cons x y =>
      cases y
      exact ⟨_, rfl, x⟩
  cases (show u = Value.ref l from ru)
  obtain ⟨its, r, pl, _⟩ := I.list hl
  have hlen : its.toArray.size = ns.length := by rw [List.size_toArray, ← r.length, List.length_map]
  refine call_set_list (I.ok.hd hc) pl.isList (by simpa using RZ.intsAre_vals r) (by rw [hlen]; unfold scanBound; omega) fun h' tk hS hk => ?_
  have hf : H s.heap.objs.size = none := I.hok.fresh (Nat.le_refl _)
  refine ⟨.ref s.heap.objs.size, _, I.laid (t' := tk) (fun b o e => hk b o (Heap.lt_size e) e) (Nat.le_refl _) (show ObjOk X.prog X.w (upd H s.heap.objs.size (.set _ _)) h' s.heap.objs.size (.set _ _) from hS), rfl, q _ _ _ hf fun z => ?_⟩
  rw [firstMet_any, hlen]
  have e1 : (List.range ns.length).map (fun i => ns.getD i 0) = ns := by
    refine List.ext_getElem (by simp) fun i h1 h2 => ?_
    simp [List.getD_eq_getElem?_getD, List.getElem?_eq_getElem h2]
  rw [e1]
  by_cases hm : z ∈ ns
  · rw [decide_eq_true hm]
    exact List.any_eq_true.mpr ⟨z, hm, by simp⟩
  · rw [decide_eq_false hm]
    exact List.any_eq_false.mpr fun y hy => by
      intro e
      have : y = z := by simpa using e
      exact hm (this ▸ hy)
theorem kc_min (e : X.K = K) (hc : X.calm = true) : CallR X (.builtin "min") (rMin K) := by
  subst e
  exact cr_min hc
theorem kc_max (e : X.K = K) (hc : X.calm = true) : CallR X (.builtin "max") (rMax K) := by
  subst e
  exact cr_max hc
def rInI : R2 := fun x y H Q => ∃ (z : Int) (a : Addr) (S : Int → Bool) (n : Nat), x = .int z ∧ y = .ref a ∧ H a = some (.set S n) ∧ Q (.bl (S z)) H
theorem op_inI : OpR X (compareOp .In) rInI := by
  intro pins s σ H x y v u Q I rx ry h
  obtain ⟨z, a, S, n, rfl, rfl, ha, q⟩ := h
  obtain ⟨t, rfl⟩ := rx
  cases (show u = Value.ref a from ry)
  have hS : s.heap.SetOf (intKind X.prog X.w) a S n := I.hok a _ ha
  exact wpAny_inSet_of (knd := intKind X.prog X.w) (k := z) (by simp [intKind, Value.isInt]) rfl hS ⟨.bl (S z), H, I.tok _, rfl, q⟩
end
end Xi
namespace Xi
open PySem PySem.Spec PyProof.Rows L2
/-! ## how long a written datum is at most -/
mutual
def wt : PyData → Nat
  | .none => 4
  | .bool _ => 5
  | .int _ => 40
  | .str _ => 0
  | .list ds => wtAll ds + 2
  | .tuple ds => wtAll ds + 4
  | .dict _ => 0
def wtAll : List PyData → Nat
  | [] => 0
  | d :: ds => wt d + 2 + wtAll ds
end
/-- data of truths and whole numbers of at most 31 figures -/
def prt : Nat → PyData → Prop
  | _, .none => True
  | _, .bool _ => True
  | _, .int i => i.natAbs < 10 ^ 31
  | _, .str _ => False
  | 0, _ => False
  | n + 1, .list ds => ∀ d ∈ ds, prt n d
  | n + 1, .tuple ds => ∀ d ∈ ds, prt n d
  | _ + 1, .dict _ => False
theorem prt_shp : ∀ {n : Nat} {d : PyData}, prt n d → shp n d
  | _, .none, _ => (by unfold shp; trivial)
  | _, .bool _, _ => (by unfold shp; trivial)
  | _, .int _, _ => (by unfold shp; trivial)
  | 0, .str _, h => h.elim
  | _ + 1, .str _, h => h.elim
  | n + 1, .list ds, h => fun d hd => prt_shp ((show ∀ d ∈ ds, prt n d from h) d hd)
  | n + 1, .tuple ds, h => fun d hd => prt_shp ((show ∀ d ∈ ds, prt n d from h) d hd)
  | 0, .list _, h => h.elim
  | 0, .tuple _, h => h.elim
  | 0, .dict _, h => h.elim
  | _ + 1, .dict _, h => h.elim
theorem strLen (x y : Str) : (x ++ y).length = x.length + y.length := Array.size_append ..
theorem textFrom_le : ∀ (ts : List Str) (k : Nat) (acc : Str), (textFrom k acc ts).length ≤ acc.length + (ts.map fun t => t.length + 2).sum
  | [], _, acc => by
    show acc.length ≤ acc.length + 0
    omega
  | t :: r, k, acc => by
    have ih := textFrom_le r (k + 1) (acc ++ ((if k > 0 then ", " else "" : String) : Str) ++ t)
    have e : ((if k > 0 then ", " else "" : String) : Str).length ≤ 2 := by
      split
      · exact Nat.le_of_eq (by decide +kernel)
      · exact Nat.le_trans (Nat.le_of_eq (by decide +kernel : (("" : String) : Str).length = 0)) (by decide)
    rw [strLen, strLen] at ih
    show (textFrom (k + 1) (acc ++ ((if k > 0 then ", " else "" : String) : Str) ++ t) r).length ≤ acc.length + ((t.length + 2) + (r.map fun t => t.length + 2).sum)
    omega
theorem join_le : ∀ ts : List Str, (Str.join ", " ts).length ≤ (ts.map fun t => t.length + 2).sum
  | [] => Nat.le_of_eq (by decide +kernel)
  | [x] => by
    show x.length ≤ (x.length + 2) + 0
    omega
  | x :: y :: r => by
    have ih := join_le (y :: r)
    have e2 : ((", " : String) : Str).length = 2 := by decide +kernel
    show (x ++ ((", " : String) : Str) ++ Str.join ", " (y :: r)).length ≤ (x.length + 2) + ((y :: r).map fun t => t.length + 2).sum
    rw [strLen, strLen]
    omega
mutual
theorem shown_le : ∀ {n : Nat} {d : PyData}, prt n d → d.showable = true ∧ d.shown.length ≤ wt d
  | _, .none, _ => ⟨rfl, Nat.le_of_eq (by decide +kernel)⟩
  | _, .bool b, _ => ⟨rfl, by cases b <;> decide +kernel⟩
  | n, .int i, h => by
    have hi : i.natAbs < 10 ^ 31 := by cases n <;> exact h
    have h2 : (10 : Nat) ^ 31 < 2 ^ 110 := by decide
    have l := int_text_length_le10 (a := i) (k := 31) (by decide) hi
    refine ⟨?_, ?_⟩
    · show decide (i.natAbs.log2 < 1920) = true
      exact decide_eq_true (Nat.lt_trans (PySem.Flt.log2_lt_of (k := 110) (by decide) (Nat.lt_trans hi h2)) (by decide))
    · have e : ((toString i : String) : Str).length ≤ 32 := by
        show (Str.ofString (toString i)).length ≤ 32
        rw [PySem.ofString_length]
        exact l
      show ((toString i : String) : Str).length ≤ 40
      omega
  | 0, .str _, h => h.elim
  | _ + 1, .str _, h => h.elim
  | n + 1, .list ds, h => by
    obtain ⟨a, b⟩ := shownAll_le (n := n) (ds := ds) h
    refine ⟨a, ?_⟩
    have t := textFrom_le (PyData.shownAll ds) 0 ("[" : Str)
    have e1 : ("[" : Str).length = 1 := by decide +kernel
    have e2 : ("]" : Str).length = 1 := by decide +kernel
    show (textFrom 0 ("[" : Str) (PyData.shownAll ds) ++ ("]" : Str)).length ≤ wtAll ds + 2
    rw [strLen]
    omega
  | n + 1, .tuple ds, h => by
    obtain ⟨a, b⟩ := shownAll_le (n := n) (ds := ds) h
    refine ⟨a, ?_⟩
    have t := join_le (PyData.shownAll ds)
    have e1 : ("(" : Str).length = 1 := by decide +kernel
    have e2 : ((if (PyData.shownAll ds).length == 1 then ",)" else ")" : String) : Str).length ≤ 2 := by
      split
      · exact Nat.le_of_eq (by decide +kernel)
      · exact Nat.le_trans (Nat.le_of_eq (by decide +kernel : ((")" : String) : Str).length = 1)) (by decide)
    show (("(" : Str) ++ Str.join ", " (PyData.shownAll ds) ++ ((if (PyData.shownAll ds).length == 1 then ",)" else ")" : String) : Str)).length ≤ wtAll ds + 4
    rw [strLen, strLen]
    omega
  | 0, .list _, h => h.elim
  | 0, .tuple _, h => h.elim
  | 0, .dict _, h => h.elim
  | _ + 1, .dict _, h => h.elim
theorem shownAll_le : ∀ {n : Nat} {ds : List PyData}, (∀ d ∈ ds, prt n d) → PyData.showableAll ds = true ∧ ((PyData.shownAll ds).map fun t => t.length + 2).sum ≤ wtAll ds
  | _, [], _ => ⟨rfl, Nat.le_refl _⟩
  | n, d :: ds, h => by
    obtain ⟨a, b⟩ := shown_le (h d List.mem_cons_self)
    obtain ⟨a2, b2⟩ := shownAll_le (ds := ds) fun x hx => h x (List.mem_cons_of_mem _ hx)
    refine ⟨?_, ?_⟩
    · show (d.showable && PyData.showableAll ds) = true
      rw [a, a2]
      rfl
    · show (d.shown.length + 2) + ((PyData.shownAll ds).map fun t => t.length + 2).sum ≤ wt d + 2 + wtAll ds
      omega
end
theorem wtAll_le {m : Nat} : ∀ {ds : List PyData}, (∀ d ∈ ds, wt d ≤ m) → wtAll ds ≤ ds.length * (m + 2)
  | [], _ => Nat.zero_le _
  | d :: ds, h => by
    have a := h d List.mem_cons_self
    have b := wtAll_le (ds := ds) fun x hx => h x (List.mem_cons_of_mem _ hx)
    show wt d + 2 + wtAll ds ≤ (ds.length + 1) * (m + 2)
    rw [Nat.add_mul, Nat.one_mul]
    omega
section
variable {K : PySem.W.Frag} {a : Addr} {H : Hp} {d : PyData} {n : Nat} {Q : VK}
theorem reprD (h : Dt H (.ref a) d) (s : prt n d) (l : wt d ≤ 10000000) (q : Q (.str d.shown) H) (hn : n ≤ 60 := by decide) : rRepr K [.ref a] H Q := by
  obtain ⟨x, y⟩ := shown_le s
  refine ⟨a, d, rfl, h.dp, x, shaped_of (prt_shp s) hn, ?_, q⟩
  have e : sizeLine = 16777216 := by rw [sizeLine_eq]
  rw [e]
  omega
theorem prt_list {ds : List PyData} (h : ∀ d ∈ ds, prt n d) : prt (n + 1) (.list ds) := h
theorem prt_tup {ds : List PyData} (h : ∀ d ∈ ds, prt n d) : prt (n + 1) (.tuple ds) := h
end
end Xi

namespace Xi
open PySem PySem.Spec PySem.Calls PyProof.Rows L2
/-! ## except (A, B, ..) as e -/
section
variable {M : Model} {A : Around} {E : Value → Shared → Prop} {s : Shared}
theorem forIn_skip {body : Value → PUnit → Sem (ForInStep PUnit)} : ∀ {l : List Value} {Q : PUnit → Shared → Prop}, (∀ c ∈ l, ∀ {Q : ForInStep PUnit → Shared → Prop}, Q (.yield ⟨⟩) s → wpAny M A (body c ⟨⟩) Q E s) → Q ⟨⟩ s → wpAny M A (forIn l ⟨⟩ body) Q E s
  | [], Q, _, q => by
    rw [List.forIn_nil]
    exact wpAny_pure q
  | c :: l, Q, h, q => by
    rw [List.forIn_cons]
    exact wpAny_bind (h c List.mem_cons_self (forIn_skip (fun d hd => h d (List.mem_cons_of_mem _ hd)) q))
theorem forIn_any {β : Type} {b0 b1 : β} {f : Value → Bool} {body : Value → β → Sem (ForInStep β)} : ∀ {l : List Value} {Q : β → Shared → Prop},
    (∀ c ∈ l, ∀ {Q : ForInStep β → Shared → Prop}, Q (if f c then .done b1 else .yield b0) s → wpAny M A (body c b0) Q E s) → Q (if l.any f then b1 else b0) s → wpAny M A (forIn l b0 body) Q E s
  | [], Q, _, q => by
    rw [List.forIn_nil]
    exact wpAny_pure q
  | c :: l, Q, h, q => by
    rw [List.forIn_cons]
    refine wpAny_bind (h c List.mem_cons_self ?_)
    rw [List.any_cons] at q
    cases e : f c with
    | true =>
      rw [e] at q
      exact wpAny_pure q
    | false =>
      rw [e] at q
      exact forIn_any (fun d hd => h d (List.mem_cons_of_mem _ hd)) q
end
theorem exmAny_each {K : PySem.W.Frag} {cls : Value} : ∀ {cs : List Value} {b : Bool}, PySem.W.exmAny K cls cs = some b → (∀ c ∈ cs, PySem.W.exmOne K cls c = some ((PySem.W.exmOne K cls c).getD false)) ∧ b = cs.any fun c => (PySem.W.exmOne K cls c).getD false
  | [], b, h => ⟨fun c hc => (by cases hc), (Option.some.inj h).symm⟩
  | c :: r, b, h => by
    obtain ⟨b1, d1, h1, h2, rfl⟩ := PySem.W.exmAny_cons h
    obtain ⟨i1, i2⟩ := exmAny_each h2
    refine ⟨fun d hd => ?_, ?_⟩
    · rcases List.mem_cons.mp hd with rfl | hd
      · rw [h1]
        rfl
      · exact i1 d hd
    · rw [List.any_cons, h1, ← i2]
      rfl
open PySem.W in
theorem exm_all {M : Model} {K : PySem.W.Frag} {cs : List Value} {cls : Value} {tp e : Addr} {b : Bool} {h : Heap} (X : K.In h) (LT : Looks M h (typeOf (.ref e)) cls) (hp : h.get? tp = some { cls := .type "tuple", data := .seq cs.toArray }) (hx : exmAny K cls cs = some b) :
    Looks M h (excMatches (.ref e) (.ref tp)) b := by
  intro A Q E s k₀ q
  obtain ⟨hh, g, d, tk, os⟩ := s
  have k : ∀ b o, h.get? b = some o → hh.get? b = some o := k₀
  have LT0 : Looks M h (isInstance (.ref tp) (.type "tuple")) true := ((Looks.ld hp).andThen .now).andThen (Looks.of_pure isSubtype_tuple_tuple)
  obtain ⟨each, eb⟩ := exmAny_each hx
  have LT := LT.keeps k
  have LT0 := LT0.keeps k
  have hp' := k _ _ hp
  unfold excMatches
  refine wpAny_bind (LT0.at ?_)
  dsimp only
  rw [if_pos rfl]
  first
    | refine wpAny_bind (wpAny_seqItems hp' rfl ?_)
    | refine wpAny_bind (wpAny_bind (wpAny_seqItems hp' rfl (wpAny_pure ?_)))
  dsimp only [Option.getD_some, Option.getD]
  refine wpAny_bind (wpAny_pure ?_)
  refine wpAny_bind (forIn_skip (fun c hc Q q => ?_) ?_)
  · obtain ⟨e1, S1⟩ := exm_cls (M := M) X (each c hc)
    have e1 := e1.keeps k
    refine wpAny_bind (e1.at ?_)
    simp only [Bool.not_true, Bool.false_eq_true, if_false]
    exact wpAny_pure q
  refine wpAny_bind (LT.at ?_)
  refine wpAny_bind (forIn_any (b1 := (some true, ())) (f := fun c => (exmOne K cls c).getD false) (fun c hc Q q => ?_) ?_)
  · obtain ⟨e1, S1⟩ := exm_cls (M := M) X (each c hc)
    have S1 := S1.keeps k
    refine wpAny_bind (S1.at ?_)
    cases e : (exmOne K cls c).getD false with
    | true =>
      rw [if_pos rfl]
      rw [e, if_pos rfl] at q
      exact wpAny_pure q
    | false =>
      rw [if_neg Bool.false_ne_true]
      rw [e, if_neg Bool.false_ne_true] at q
      exact wpAny_pure q
  rw [← eb]
  cases b with
  | true =>
    rw [if_pos rfl]
    exact wpAny_pure q
  | false =>
    rw [if_neg Bool.false_ne_true]
    exact wpAny_pure q
/-- the names in the brackets of an except clause -/
inductive NamesL (X : Cx) : List Expr → List Value → Prop
  | nil : NamesL X [] []
  | cons {x : Str} {c : Value} {p : Pos} {es : List Expr} {cs : List Value} (hc : Names X x c) (r : NamesL X es cs) : NamesL X (.Name x p :: es) (c :: cs)
theorem NamesL.mark {X : Cx} {a : Addr} {pn : List (Addr × Obj)} {es : List Expr} {cs : List Value} (h : NamesL X es cs) : NamesL (X.suite a pn) es cs := by
  induction h with
  | nil => exact .nil
  | cons y r ih => exact .cons y ih
/-- an exception of the class cls that was caught, at a -/
def CaO (cls : Value) (a : Addr) : HO := .ext fun h => ∃ (oe : Obj) (vs : Array Value), h.get? a = some oe ∧ oe.cls = cls ∧ oe.dict = none ∧ oe.data = .fields vs
theorem caO_ok {P : Program} {w : World} {H : Hp} {h : Heap} {a : Addr} {cls : Value} {oe : Obj} {vs : Array Value} (e : h.get? a = some oe) (z : Zc cls none oe) (d : oe.data = .fields vs) : ObjOk P w H h a (CaO cls a) :=
  ⟨⟨oe, vs, e, z.1, z.2, d⟩, ⟨oe, e⟩, fun _ _ ⟨u, v, q, r⟩ k => ⟨u, v, k u q, r⟩⟩
section
variable {X : Cx} {pins : List (Addr × Obj)} {σ : L2.St} {H : Hp} {s : Shared} {a : Addr} {o : HO}
theorem names_run {pos : Pos} {E : Value → Shared → Prop} (I : Inv X pins σ H s) : ∀ {es : List Expr} {cs : List Value} {Q : List Value → Shared → Prop}, NamesL X es cs → Q cs s → wpAny (model X.prog X.w) X.A (spliced (backTo pos (starEach es X.env))) Q E s
  | _, _, _, .nil, q => wpAny_items_nil q
  | _, _, _, .cons (c := c) ⟨g, d, y⟩ r, q => by
    refine wpAny_items_cons ?_
    rcases y with y | ⟨y, v, nn⟩
    · exact ld_glob I g y (names_run I r q) d
    · exact ld_blt I g y v (names_run I r q) nn d
/-- an object that was made since the entry may be looked after -/
theorem track (I : Inv X pins σ H s) (n : H a = none) (old : X.s_0.heap.get? a = none) (nl : a ≠ X.env.locals) (nc : ∀ x c, X.env.cells.lookup x = some c → c ≠ a) (np : ∀ p ∈ X.pn ++ pins, p.1 ≠ a)
    (new : ObjOk X.prog X.w (upd H a o) s.heap a o) : Inv X pins σ (upd H a o) s where
  ok := I.ok
  os := I.os
  bare := I.bare
  base := by
    refine ⟨I.base.keep, I.base.slot, fun b u e z w => ?_, I.base.there, fun b xs e => ?_, fun b u xs e => ?_, fun b ps e => ?_⟩
    · rw [upd_ne (fun q => by rw [q, old] at e; cases e)]
      exact I.base.free b u e z w
    · rw [upd_ne (ne_of_none (I.base.tups b xs e) n)]
      exact I.base.tups b xs e
    · rw [upd_ne (ne_of_none (I.base.frzs b u xs e) n)]
      exact I.base.frzs b u xs e
    · obtain ⟨m, z⟩ := I.base.tbls b ps e
      exact ⟨m, by rw [upd_ne (ne_of_none z n)]; exact z⟩
  loc := I.loc
  cell := I.cell
  free := by
    rw [upd_ne nl.symm]
    exact I.free
  freeC := fun x c e => by
    rw [upd_ne (nc x c e)]
    exact I.freeC x c e
  pin := fun p hp => by
    obtain ⟨x1, x2, x3⟩ := I.pin p hp
    exact ⟨x1, by rw [upd_ne (np p hp)]; exact x2, x3⟩
  hok := HOk.laidN I.hok (fun _ _ z => z) n new
  len := I.len
end
theorem flies {B : Heap} {l : List Env} {e : Addr} {Z : Obj → Prop} {h h' : Heap} (f : HandSPX.FlyingZ B l e Z h) (k : ∀ b o, h.get? b = some o → h'.get? b = some o) : HandSPX.FlyingZ B l e Z h' := by
  obtain ⟨f1, f2, f3, oe, ws, T, oT, ts, x1, x2, x3, x4, x5, x6, x7, x8⟩ := f
  exact ⟨fun b o q => k b o (f1 b o q), f2, f3.of_keeps fun b o q _ => ⟨o, k b o q, rfl⟩, oe, ws, T, oT, ts, k _ _ x1, x2, x3, x4, x5, x6, k _ _ x7, x8⟩
/-- what 'except (A, B, ..) as n' wishes of an exception; behind its suite the exception is looked after -/
def wIn (K : PySem.W.Frag) (cs : List Value) (i : Nat) (ts : Addr → Value → Option Addr → TS) (Wout : WX) (D : Ends) : WX := fun cls d σ H =>
  ∃ b, PySem.W.exmAny K cls cs = some b ∧
    (b = true → d = none ∧ ∀ a, H a = none → ts a cls d { nx := fun σ' H' => D.nx (σ'.set i none) (upd H' a (CaO cls a)), rt := fun _ _ => False, bk := fun _ _ => False, ct := fun _ _ => False } (σ.set i (some (.ref a))) H) ∧
    (b = false → Wout cls d σ H)
section
variable {X : Cx} {n : Str} {i kk : Nat} {es : List Expr} {cs : List Value} {body suite : List Stmt} {b₀ : Stmt} {tpos pos pos' : Pos} {tb : WX → TS} {ts : Addr → Value → Option Addr → TS} {Wout : WX}
theorem ps_try_in (e1 : X.stack = X.env :: X.outer) (e2 : X.env.frame = some X.env.locals) (e3 : X.ex = []) (nd : X.N.Nodup) (ni : X.N[i]? = some n) (nk : X.env.kindOf n = some .local) (hc : NamesL X es cs) (lc : cs.length ≤ sizeLine) (tk : Takes X Wout)
    (B1 : ∀ (W : WX) (pn : List (Addr × Obj)) (xe : Value → Shared → Prop), Takes (X.tr pn xe) W → PSs (X.tr pn xe) body (tb W))
    (B2 : ∀ (a : Addr) (oe : Obj) (cls : Value) (d : Option Addr) (pn : List (Addr × Obj)), Zc cls d oe → (∃ vs, oe.data = .fields vs) → PSs (X.suite a ((a, oe) :: pn)) (b₀ :: suite) (ts a cls d)) :
    PS X (.Try body [.ExceptHandler (some (.Tuple es kk tpos)) (some n) (b₀ :: suite) pos'] [] [] pos) (fun D σ H => tb (wIn X.K cs i ts Wout D) D σ H) := by
  constructor
  intro pins s σ H D I0 want
  have ok := I0.ok
  have fr : X.A.frames = some (X.env :: X.outer) := by
    rw [ok.frames, e1]
  refine wpAny_Try_except (wpAny_mono ((B1 (wIn X.K cs i ts Wout D) (X.pn ++ pins) _ (fun u s' air => ?_)).run [] s σ H D (I0.toTry _) want) (fun f s1 done => ?_) (fun _ _ z => z))
  · obtain ⟨a, B, sI, pins', σ', H', cls, d, rfl, J', nb, up, sky, na, os, ag, b, x1, yes, no⟩ := air
    have J : Inv X pins σ' H' sI := J'.ofTry ok
    rw [show (X.tr (X.pn ++ pins) _).stack = X.env :: X.outer from e1] at sky
    refine Sky.land Zc.steady fr e2 sky fun h3 g3 u3 => ?_
    have J3 : Inv X pins σ' H' { s' with heap := h3 } := J.landed nb g3.1 (up.trans u3) os ag
    obtain ⟨oe, vs, T, oT, us, q1, q2, q3, q4, q5, q6, q7, q8, q9⟩ := id g3.2.2.2
    have apart : a ∉ frs (X.env :: X.outer) := fun hm => by
      obtain ⟨_, u, eu, hu⟩ := g3.2.2.1.mem hm
      rw [q1] at eu
      cases eu
      exact hu _ q3
    have aL : a ≠ X.env.locals := fun z => apart (List.mem_filterMap.mpr ⟨X.env, List.mem_cons_self, by rw [e2, z]⟩)
    have aF : a ∉ X.fs := fun hm => by
      obtain ⟨v, hv, q⟩ := List.mem_filterMap.mp hm
      exact apart (List.mem_filterMap.mpr ⟨v, List.mem_cons_of_mem _ hv, q⟩)
    -- what is in the brackets
    refine wpAny_handleBy_cons (codeAny_handlers_test ?_) (fun q => by cases q)
    refine wpAny_Tuple (names_run (X := X.suite a ((a, oe) :: (X.pn ++ pins))) (J3.suite q1 q3 na aL aF) (es := es) (cs := cs) ?_ ⟨lc, ?_⟩)
    · exact hc.mark
    have grow : ∀ b o, h3.get? b = some o → (h3.push { cls := .type "tuple", data := .seq cs.toArray }).get? b = some o := fun _ _ z => Heap.get?_push_of_some _ z
    have tup : (h3.push { cls := .type "tuple", data := .seq cs.toArray }).get? h3.objs.size = some { cls := .type "tuple", data := .seq cs.toArray } := Heap.get?_push_size h3 rfl
    have LT : PySem.W.Looks (model X.prog X.w) (h3.push { cls := .type "tuple", data := .seq cs.toArray }) (typeOf (.ref a)) cls := fun A Q E s k q => wpAny_typeOf_ref (k _ _ (grow _ _ q1)) (by rw [q2.1]; exact q)
    refine (exm_all (M := model X.prog X.w) (J3.kIn.keeps grow) LT tup x1).here ?_
    have f4 := flies g3 grow
    have u4 : sI.heap.UpToSlots (h3.push { cls := .type "tuple", data := .seq cs.toArray }) := (up.trans u3).trans (Heap.UpToSlots.of_keeps grow)
    generalize h3.push { cls := .type "tuple", data := .seq cs.toArray } = h4 at f4 u4
    cases b with
    | true =>
      obtain ⟨hd, yes⟩ := yes rfl
      subst hd
      have nb2 : ∀ b o, sI.heap.get? b = some o → b ∉ frs (X.env :: X.outer) → B.get? b = some o := by
        rw [← e1]
        exact nb
      have aB : B.get? a = none := g3.2.1
      have old : X.s_0.heap.get? a = none := by
        cases z : X.s_0.heap.get? a with
        | none => rfl
        | some o =>
          obtain ⟨u, hu⟩ := J.base.there a o z (by rw [e3]; exact fun q => nomatch q)
          have := nb2 a u hu apart
          rw [aB] at this
          cases this
      have np : ∀ p ∈ X.pn ++ pins, p.1 ≠ a := fun p hp z => by
        obtain ⟨y1, _, y3, y4, _⟩ := J.pin p hp
        have := nb2 p.1 _ y1 (fun hm => by
          obtain ⟨v, hv, q⟩ := List.mem_filterMap.mp hm
          rcases List.mem_cons.mp hv with rfl | hv
          · rw [e2] at q
            exact y3 (Option.some.inj q).symm
          · exact y4 (List.mem_filterMap.mpr ⟨v, hv, q⟩))
        rw [z, aB] at this
        cases this
      refine codeAny_handlers_suite_as (HandSPX.lands_againZ f4 fun h5 f5 u5 => ?_)
      have J5 : Inv X pins σ' H' { s' with heap := h5 } := J.landed nb f5.1 (u4.trans u5) os ag
      obtain ⟨oe5, vs5, _, _, _, p1, p2, p3, _⟩ := id f5.2.2.2
      refine store_ok (X := X.suite a ((a, oe5) :: (X.pn ++ pins))) (v := .ref a) (J5.suite p1 p3 na aL aF) nd ni (.inl nk) rfl (fun s6 J6 => ?_) (.inr nk)
      refine wpAny_mono ((B2 a oe5 cls none (X.pn ++ pins) p2 ⟨_, p3⟩).run [] s6 _ H' _ J6 (yes a na)) (fun f s7 fin => ?_) (fun _ _ z => z.elim)
      cases f with
      | next =>
        obtain ⟨σ7, H7, J7, k7⟩ := fin
        refine gone_ok (X := X.suite a ((a, oe5) :: (X.pn ++ pins))) J7 nd ni nk fun s8 J8 => ?_
        obtain ⟨y1, y2, _⟩ := J8.pin (a, oe5) (List.mem_append_left _ List.mem_cons_self)
        refine ⟨_, _, track (J8.unsuite ok) y2 old aL (fun x c hx z => ?_) np (caO_ok y1 p2 p3), k7⟩
        obtain ⟨v, o, ho, hv⟩ := J8.cell x c hx
        rw [z, y1] at ho
        cases ho
        rw [p3] at hv
        cases hv
      | brk => exact fin.elim fun _ h => h.elim fun _ h => h.2.elim
      | cont => exact fin.elim fun _ h => h.elim fun _ h => h.2.elim
      | ret u => exact fin.elim fun _ h => h.elim fun _ h => h.elim fun _ h => h.2.2.elim
    | false =>
      show wpAny _ X.A (handleBy (.ref a) X.env []) _ _ _
      refine wpAny_handleBy_nil ?_
      obtain ⟨_, _, T4, _, _, w1, _, w3, w4, _⟩ := id f4.2.2.2
      unfold PySem.passOn
      refine wpAny_bind (wpAny_field w1 w3 w4 ?_)
      rw [if_neg (show ¬ ((Value.ref T4 == Value.none) = true) by simp)]
      have on : wpAny (model X.prog X.w) X.A (setFlight (.ref a) X.env.frame) (fun _ z => wpAny (model X.prog X.w) X.A (throw (.ref a) : Sem Flow) (SP X pins D) X.xe z) X.xe { s' with heap := h4 } := by
        rw [e2]
        refine HandSPX.setFlight_upZ f4 fun h6 held u6 => wpAny_throw (tk _ _ ⟨a, B, sI, pins, σ', H', cls, d, rfl, J, nb, u4.trans u6, ?_, na, os, ag, no rfl⟩)
        rw [e1]
        exact .inr (.inr held)
      first
        | exact wpAny_bind (wpAny_pure (wpAny_bind on))
        | exact wpAny_bind on
  · cases f with
    | next =>
      obtain ⟨σ1, H1, J1, k1⟩ := done
      exact wpAny_execs_nil ⟨σ1, H1, J1.ofTry ok, k1⟩
    | brk =>
      obtain ⟨σ1, H1, J1, k1⟩ := done
      exact ⟨σ1, H1, J1.ofTry ok, k1⟩
    | cont =>
      obtain ⟨σ1, H1, J1, k1⟩ := done
      exact ⟨σ1, H1, J1.ofTry ok, k1⟩
    | ret u =>
      obtain ⟨v1, σ1, H1, J1, r1, k1⟩ := done
      exact ⟨v1, σ1, H1, J1.ofTry ok, r1, k1⟩
end
/-! ## isinstance of a caught exception -/
def rIsC (K : PySem.W.Frag) : List V → Hp → VK → Prop := fun xs H Q => ∃ (a D : Addr) (c : V) (cv : Value) (b : Bool), xs = [.ref a, c] ∧ H a = some (CaO (.ref D) a) ∧ ExcC K D ∧ ClsV c cv ∧ PySem.W.kitOne K (.ref D) cv = some b ∧ Q (.bl b) H
def rIsCT (K : PySem.W.Frag) : List V → Hp → VK → Prop := fun xs H Q => ∃ (a D tp : Addr) (cs : List V) (us : List Value) (b : Bool), xs = [.ref a, .ref tp] ∧ H a = some (CaO (.ref D) a) ∧ ExcC K D ∧ H tp = some (.tup cs) ∧ Paired ClsV cs us ∧ PySem.W.kitAny K (.ref D) us = some b ∧ Q (.bl b) H
section
variable {X : Cx} {K : PySem.W.Frag}
theorem caO_at {pins : List (Addr × Obj)} {σ : L2.St} {H : Hp} {s : Shared} {a D : Addr} (I : Inv X pins σ H s) (e : H a = some (CaO (.ref D) a)) : ∃ oe, PySem.W.InstAt s.heap a oe D none := by
  obtain ⟨⟨oe, vs, h1, h2, h3, h4⟩, _⟩ := (show ObjOk X.prog X.w H s.heap a (CaO (.ref D) a) from I.hok a _ e)
  refine ⟨oe, ?_⟩
  obtain ⟨oc, od, oda, osl⟩ := oe
  dsimp only at h2 h3 h4
  subst h2 h3 h4
  exact ⟨h1, rfl, rfl, trivial⟩
theorem kc_isC (e : X.K = K) : CallR X (.builtin "isinstance") (rIsC K) := by
  subst e
  intro pins s σ H xs us Q I r h
  obtain ⟨a, D, c, cv, b, rfl, ha, C, k, e, q⟩ := h
  obtain ⟨u1, u2, rfl, r1, r2⟩ := vals2 r
  cases (show u1 = Value.ref a from r1)
  have e2 := k.eq r2
  subst e2
  obtain ⟨oe, J⟩ := caO_at I ha
  exact PySem.W.kia_one (PySem.W.handS_kitx_exc C.hg C.hk C.hs C.hd C.ha C.hn C.ht C.hm) I.kIn J e (fun z => nomatch z) fun tk => ⟨.bl b, H, I.tok tk, rfl, q⟩
theorem kc_isCT (e : X.K = K) : CallR X (.builtin "isinstance") (rIsCT K) := by
  subst e
  intro pins s σ H xs us Q I r h
  obtain ⟨a, D, tp, cs, ws, b, rfl, ha, C, hT, k, e, q⟩ := h
  obtain ⟨u1, u2, rfl, r1, r2⟩ := vals2 r
  cases (show u1 = Value.ref a from r1)
  cases (show u2 = Value.ref tp from r2)
  obtain ⟨oe, J⟩ := caO_at I ha
  obtain ⟨_, its, rv, o, h1, h2, n, h3⟩ := (show ObjOk X.prog X.w H s.heap tp (.tup cs) from I.hok tp _ hT)
  have e3 := ClsV.all k rv
  subst e3
  obtain ⟨oc, od, dt, sl⟩ := o
  dsimp only at h2 h3
  subst h2 h3
  exact PySem.W.kia_tup (PySem.W.handS_kitx_exc C.hg C.hk C.hs C.hd C.ha C.hn C.ht C.hm) I.kIn J h1 e (fun z => nomatch z) fun tk => ⟨.bl b, H, I.tok tk, rfl, q⟩
end
/-! ## calls of defs that raise -/
section
variable {X : Cx} {k : Nat} {ps : List Str} {sp : Sp} {W : WX} {x : Str} {st : Stmt} {p pos : Pos} {e : Expr} {es : List Expr} {t tk : TA} {kws : List Keyword} {ks : List Str}
  {g : List Value → List Value → List Value} {gV : List V → List V → List V}
/-- what a def lets out goes on as it is -/
theorem passT {E : XK} (tk : Takes X (fun cls d _ H => E cls d H)) : Passes (L2.CX X.prog X.w) X E := fun _ _ _ _ e s' I c => tk e s' (XE.of_call I (fun _ _ _ h => h) c)
theorem Dok.afterW {f : Addr} {fd : FuncData} (F : Dok X.prog X.w X.K X.mg X.base (L2.CX X.prog X.w) k f fd ps sp) (hr : Rm k X.A) (hx : Takes X W) {pins : List (Addr × Obj)} {σ : L2.St} {H : Hp} {s : Shared} {Q : VK} {args : Args} {us : List Value} {vs : List V}
    (I : Inv X pins σ H s) (r : Vals vs us) (hb : BindsTo s fd args (ps.zip us)) (h : sp vs H Q (fun cls d H' => W cls d σ H')) : codeAny (model X.prog X.w) X.A (.call (.ref f) args) (fun r s' => match r with | .ok (.ret u) => EP X pins σ Q u s' | .ok _ => False | .error e => X.xe e s') s := by
  refine codeAny_mono (F.run X.A X.stack s H args us vs Q _ hr I.env0 hb r h) fun o s' q => ?_
  cases o with
  | error e => exact hx e s' (XE.of_call I (fun _ _ _ h => h) q)
  | ok fl =>
    cases fl with
    | ret u => exact I.after q
    | next => exact q.elim
    | brk => exact q.elim
    | cont => exact q.elim
/-- f(k = v, ..) in a try -/
def tCallW (sp : Sp) (gV : List V → List V → List V) (W : WX) (tk : TA) : TE := fun σ H Q => tk σ H fun zs H2 => sp (gV [] zs) H2 Q (fun cls d H' => W cls d σ H')
theorem c_callW (c : Cal X.prog X.w X.K X.mg X.base (L2.CX X.prog X.w) k x st ps sp) (hr : Rm k X.A) (hx : Takes X W) (hkw : PK X kws tk)
    (h : ∀ (kV doc pm : Value) (an : Option Addr) (cdv ct : Value) (us ws : List Value), (g us ws).length = ps.length →
      bindArgs (PySem.W.fnOf x x (defArgs st) (defBody st) (defScope st) .none kV doc pm an cdv ct) ⟨us, ks.zip ws⟩ = pure (ps.zip (g us ws)))
    (rel : ∀ {vs : List V} {us : List Value} {zs : List V} {ws : List Value}, Vals vs us → Vals zs ws → Vals (gV vs zs) (g us ws)) (hg : Gl X x := by rfl)
    (hall : (backToKw pos (keywordEach kws X.env)).all (·.1.isSome) = true := by rfl) (hks : (backToKw pos (keywordEach kws X.env)).filterMap (·.1) = ks := by rfl)
    (hdb : (x == ("__debug__" : Str)) = false := by decide)
    (hpl : ((backTo pos (starEach [] X.env)).any (·.1) || (backToKw pos (keywordEach kws X.env)).any (·.1.isNone)) = false := by rfl) :
    PE X (.Call (.Name x p) [] kws pos) (tCallW sp gV W tk) := by
  obtain ⟨f, fd, o, d⟩ := c
  have hb : KBinds X.K fd ps ks g gV := kbOf o.F h rel
  refine ⟨fun pins s σ H Q I q => wpAny_Call_Name_kw (ld_glob I hg o.g (PySem.W.callWith_KW0 (h₀ := X.base) I.ok.mod.kin o.F.kp hall (thn (hkw.run pos pins s σ H _ I q) ?_) hpl) hdb)⟩
  rintro ws s2 ⟨zs, H2, I2, rz, q2⟩
  refine ⟨I2.kIn, ?_⟩
  rw [hks]
  have r2 := hb.rel (.nil : Vals [] []) rz
  refine ends (d.afterW hr hx I2 r2 (hb.to s2 [] ws I2.kIn ?_) q2)
  rw [← r2.length]
  exact d.len _ _ _ _ q2
/-- f(a, ..) in a try -/
def tCallP (sp : Sp) (W : WX) (t : TA) : TE := fun σ H Q => t σ H fun vs H2 => sp (vs ++ []) H2 Q (fun cls d H' => W cls d σ H')
theorem c_callP (c : Cal X.prog X.w X.K X.mg X.base (L2.CX X.prog X.w) k x st ps sp) (hr : Rm k X.A) (hx : Takes X W) (ha : PA X (e :: es) t) (hg : Gl X x := by rfl)
    (hdb : (x == ("__debug__" : Str)) = false := by decide) (he : starEach (e :: es) X.env = (false, eval e X.env) :: starEach es X.env := by rfl) (hpl : (backTo pos (starEach es X.env)).any (·.1) = false := by rfl) :
    PE X (.Call (.Name x p) (e :: es) [] pos) (tCallP sp W t) := by
  obtain ⟨f, fd, o, d⟩ := c
  refine ⟨fun pins s σ H Q I q => wpAny_Call_Name_kw (ld_glob I hg o.g (PySem.W.callWith_K (h₀ := X.base) I.ok.mod.kin o.F.kp (thn (ha.run pos pins s σ H _ I q) ?_) he hpl) hdb)⟩
  rintro us s1 ⟨vs, H1, I1, r, q1⟩
  refine ⟨I1.kIn, ?_⟩
  have r2 : Vals (vs ++ []) (us ++ []) := r.append .nil
  refine ends (d.afterW hr hx I1 r2 (o.b s1 us I1.kIn ?_) q1)
  rw [← r2.length]
  exact d.len _ _ _ _ q1
end
/-! ## facts of classes, put together -/
section
open PySem.W
variable {K : PySem.W.Frag} {t c : Value} {C : Addr} {b d : Bool} {r : List Value} {T : String}
theorem exmAny_mk (h1 : exmOne K t c = some b) (h2 : exmAny K t r = some d) : exmAny K t (c :: r) = some (b || d) := by
  unfold exmAny
  rw [h1, h2]
theorem kit_ref (h1 : hasDictIn K C = true) (h2 : typeIn K (.ref C) = some (.type "type")) (h3 : subIn K t (.ref C) = some b) (h4 : t = .ref C → b = true) : kitOne K t (.ref C) = some b := by
  unfold kitOne
  by_cases e : (t == .ref C) = true
  · rw [if_pos e, h4 (beq_iff_eq.mp e)]
  · rw [if_neg e]
    obtain ⟨cd, hc, _⟩ := any_some h1
    have e2 : ((clsIn K C).isSome && typeIn K (.ref C) == some (.type "type")) = true := by rw [hc, h2] <;> rfl
    show (if ((clsIn K C).isSome && typeIn K (.ref C) == some (.type "type")) = true then subIn K t (.ref C) else none) = some b
    rw [if_pos e2]
    exact h3
theorem kit_typ (m : kitMeta T = true) (h : subIn K (.ref C) (.type T) = some b) : kitOne K (.ref C) (.type T) = some b := by
  unfold kitOne
  rw [if_neg (fun e => by cases (beq_iff_eq.mp e))]
  show (if kitMeta T = true then subIn K (.ref C) (.type T) else none) = some b
  rw [if_pos m]
  exact h
theorem kitAny_mk (h1 : kitOne K t c = some false) (h2 : kitAny K t r = some false) : kitAny K t (c :: r) = some false := kitAny_cons h1 (fun _ => h2) (fun e => nomatch e)
end
end Xi

namespace Xi
open PySem PySem.Spec PyProof.Rows L2
/-! ## numbers, data of whole numbers -/
theorem fmod_lt {a c : Int} (hc : 0 < c) : 0 ≤ a.fmod c ∧ a.fmod c < c := by
  rw [Int.fmod_eq_emod_of_nonneg a (by omega)]
  exact ⟨Int.emod_nonneg a (by omega), Int.emod_lt_of_pos a hc⟩
theorem fdiv_bd {a c : Int} (ha : 0 ≤ a) (hc : 0 < c) : 0 ≤ a.fdiv c := by
  rw [Int.fdiv_eq_ediv_of_nonneg a (by omega)]
  exact Int.ediv_nonneg ha (by omega)
theorem fmod2 (a : Int) : a.fmod 2 = a % 2 := Int.fmod_eq_emod_of_nonneg a (by decide)
theorem fdiv2 (a : Int) : a.fdiv 2 = a / 2 := Int.fdiv_eq_ediv_of_nonneg a (by decide)
theorem bits_lt {i : Int} {m : Nat} (h : i.natAbs < 2 ^ m) (hm : 0 < m) : Builtin.Int.intBits i ≤ m := by
  unfold Builtin.Int.intBits
  split
  · omega
  · have := PySem.Flt.log2_lt_of hm h
    omega
theorem powk {i k : Int} {m : Nat} (h : i.natAbs < 2 ^ m) (hm : 0 < m) (h2 : m ≤ 1000000) (k0 : 0 ≤ k) (k5 : k ≤ 64) : (0 : Int) ≤ k ∧ (Builtin.Int.intBits i : Int) * k ≤ 2 ^ 27 := by
  have b := bits_lt h hm
  refine ⟨k0, ?_⟩
  have e : (2 : Int) ^ 27 = 134217728 := by decide
  have c : (Builtin.Int.intBits i : Int) * k ≤ (Builtin.Int.intBits i : Int) * 64 := Int.mul_le_mul_of_nonneg_left k5 (by omega)
  omega
theorem at_mem {xs : List V} {r : Int} (h0 : 0 ≤ r) (h1 : r < (xs.length : Int)) : ∃ v, atI xs r = some v ∧ v ∈ xs := by
  obtain ⟨j, rfl⟩ := Int.eq_ofNat_of_zero_le h0
  have hj : j < xs.length := by omega
  exact ⟨xs[j], atI_nat (List.getElem?_eq_getElem hj), List.getElem_mem hj⟩
theorem repr_facts {n : Nat} {d : PyData} (s : prt n d) (l : wt d ≤ 10000000) (hn : n ≤ 60 := by decide) : d.showable = true ∧ SeqAt.shaped d = true ∧ d.shown.length ≤ sizeLine := by
  obtain ⟨x, y⟩ := shown_le s
  refine ⟨x, shaped_of (prt_shp s) hn, ?_⟩
  have e : sizeLine = 16777216 := by rw [sizeLine_eq]
  rw [e]
  omega
def intsD (ns : List Int) : PyData := .list (ns.map PyData.int)
theorem dt_intsL {H : Hp} {q : Addr} {ns : List Int} (e : H q = some (.lst (ns.map V.int))) : Dt H (.ref q) (intsD ns) := .lst e (dt_ints ns)
theorem shp_ints (ns : List Int) : shp 1 (intsD ns) := shp_list fun d hd => by
  obtain ⟨z, _, rfl⟩ := List.mem_map.mp hd
  exact True.intro
/-- numbers of at most thirty figures -/
theorem prt_ints {ns : List Int} (h : ∀ z ∈ ns, z.natAbs < 10 ^ 31) : prt 1 (intsD ns) := prt_list fun d hd => by
  obtain ⟨z, hz, rfl⟩ := List.mem_map.mp hd
  exact h z hz
theorem wt_ints (ns : List Int) : wt (intsD ns) ≤ ns.length * 42 + 2 := by
  have e := wtAll_le (m := 40) (ds := ns.map PyData.int) fun d hd => by
    obtain ⟨z, _, rfl⟩ := List.mem_map.mp hd
    exact Nat.le_refl 40
  rw [List.length_map] at e
  show wtAll (ns.map PyData.int) + 2 ≤ _
  omega
theorem repr_ints {ns : List Int} (h : ∀ z ∈ ns, z.natAbs < 10 ^ 31) (l : ns.length ≤ 200000) : (intsD ns).showable = true ∧ SeqAt.shaped (intsD ns) = true ∧ (intsD ns).shown.length ≤ sizeLine :=
  repr_facts (prt_ints h) (by have := wt_ints ns; omega)
theorem eqv_ints : ∀ (a b : List Int), PyData.eqvAll (a.map PyData.int) (b.map PyData.int) = decide (a = b)
  | [], [] => rfl
  | [], _ :: _ => rfl
  | _ :: _, [] => rfl
  | x :: a, y :: b => by
    show (PyData.eqv (.int x) (.int y) && PyData.eqvAll (a.map PyData.int) (b.map PyData.int)) = _
    rw [eqv_ints a b]
    by_cases c : x = y
    · subst c
      simp [PyData.eqv]
    · simp [PyData.eqv, c]
theorem eqv_ints_nil (a : List Int) : PyData.eqv (intsD a) (intsD []) = decide (a = []) := eqv_ints a []
theorem inV_int (z : Int) (fs : List Int) : inV (.int z) (fs.map V.int) = decide (z ∈ fs) := by
  have e : ∀ y : Int, eqV (.int y) (.int z) = decide (y = z) := fun y => by
    by_cases c : y = z
    · subst c
      simp [eqV]
    · rw [decide_eq_false c]
      simp [eqV, c]
  induction fs with
  | nil => rfl
  | cons y r ih =>
    show (eqV (.int y) (.int z) || inV (.int z) (r.map V.int)) = _
    rw [ih, e]
    by_cases c : y = z
    · simp [c]
    · have c' : ¬ z = y := fun q => c q.symm
      simp [c, c']
theorem inc_unique : ∀ {a b : List Int}, a.Pairwise (· < ·) → b.Pairwise (· < ·) → (∀ k, k ∈ a ↔ k ∈ b) → a = b
  | [], [], _, _, _ => rfl
  | [], y :: b, _, _, h => nomatch (h y).mpr List.mem_cons_self
  | x :: a, [], _, _, h => nomatch (h x).mp List.mem_cons_self
  | x :: a, y :: b, ha, hb, h => by
    rw [List.pairwise_cons] at ha hb
    have e : x = y := by
      have h1 := (h x).mp List.mem_cons_self
      have h2 := (h y).mpr List.mem_cons_self
      rcases List.mem_cons.mp h1 with e | h1
      · exact e
      · rcases List.mem_cons.mp h2 with e | h2
        · exact e.symm
        · have := ha.1 y h2
          have := hb.1 x h1
          omega
    subst e
    congr 1
    refine inc_unique ha.2 hb.2 fun k => ?_
    constructor
    · intro hk
      rcases List.mem_cons.mp ((h k).mp (List.mem_cons_of_mem _ hk)) with e | q
      · subst e
        have := ha.1 k hk
        omega
      · exact q
    · intro hk
      rcases List.mem_cons.mp ((h k).mpr (List.mem_cons_of_mem _ hk)) with e | q
      · subst e
        have := hb.1 k hk
        omega
      · exact q
structure IsMin (ns : List Int) (m : Int) : Prop where
  mem : m ∈ ns
  le : ∀ y ∈ ns, m ≤ y
structure IsMax (ns : List Int) (m : Int) : Prop where
  mem : m ∈ ns
  le : ∀ y ∈ ns, y ≤ m
theorem IsMin.eq {ns : List Int} {a b : Int} (h : IsMin ns a) (g : IsMin ns b) : a = b := by
  have := h.le b g.mem
  have := g.le a h.mem
  omega
theorem IsMax.eq {ns : List Int} {a b : Int} (h : IsMax ns a) (g : IsMax ns b) : a = b := by
  have := h.le b g.mem
  have := g.le a h.mem
  omega
/-- the greatest of what S holds of -/
structure Top (S : Int → Prop) (b : Int) : Prop where
  mem : S b
  le : ∀ v, S v → v ≤ b
theorem Top.eq {S T : Int → Prop} {a b : Int} (h : Top S a) (g : Top T b) (e : ∀ v, S v ↔ T v) : a = b := by
  have := h.le b ((e b).mpr g.mem)
  have := g.le a ((e a).mp h.mem)
  omega
/-- one more -/
theorem Top.or {S T : Int → Prop} {a c : Int} (h : Top S a) (e : ∀ v, T v ↔ S v ∨ v = c) : Top T (if c > a then c else a) := by
  constructor
  · split
    · exact (e _).mpr (.inr rfl)
    · exact (e _).mpr (.inl h.mem)
  · intro v hv
    rcases (e v).mp hv with q | q
    · have := h.le v q
      split <;> omega
    · split <;> omega
/-- sums of the numbers ahead of a place -/
def pre (f : Nat → Int) : Nat → Int
  | 0 => 0
  | n + 1 => pre f n + f n
theorem pre_succ (f : Nat → Int) (n : Nat) : pre f (n + 1) = pre f n + f n := rfl
theorem pre_congr {f g : Nat → Int} : ∀ {n : Nat}, (∀ i, i < n → f i = g i) → pre f n = pre g n
  | 0, _ => rfl
  | n + 1, h => by rw [pre_succ, pre_succ, pre_congr fun i hi => h i (Nat.lt_succ_of_lt hi), h n (Nat.lt_succ_self n)]
theorem pre_neg (f : Nat → Int) : ∀ n, pre (fun i => -f i) n = -pre f n
  | 0 => rfl
  | n + 1 => by rw [pre_succ, pre_succ, pre_neg f n]; omega
theorem pre_bd {f : Nat → Int} {c : Int} : ∀ {n : Nat}, (∀ i, i < n → -c ≤ f i ∧ f i ≤ c) → -(c * n) ≤ pre f n ∧ pre f n ≤ c * n
  | 0, _ => by simp [pre]
  | n + 1, h => by
    have a := pre_bd (n := n) fun i hi => h i (Nat.lt_succ_of_lt hi)
    have b := h n (Nat.lt_succ_self n)
    rw [pre_succ, show ((n + 1 : Nat) : Int) = (n : Int) + 1 by omega, Int.mul_add, Int.mul_one]
    omega
/-! ## lists of whole numbers, walked -/
theorem ints_at {fs : List Int} {i : Nat} {x : V} (h : (fs.map V.int)[i]? = some x) : ∃ c, fs[i]? = some c ∧ x = .int c := by
  rw [List.getElem?_map] at h
  cases e : fs[i]? with
  | none => rw [e] at h; cases h
  | some c => rw [e] at h; exact ⟨c, rfl, (Option.some.inj h).symm⟩
theorem drop_at {α : Type} {fs : List α} {i : Nat} {c : α} (h : fs[i]? = some c) : fs.drop i = c :: fs.drop (i + 1) := by
  have hlt : i < fs.length := (List.getElem?_eq_some_iff.mp h).1
  rw [List.drop_eq_getElem_cons hlt]
  rw [List.getElem?_eq_getElem hlt] at h
  rw [Option.some.inj h]
theorem atI_get {fs : List Int} {k : Int} {i : Nat} (e : k = (i : Int)) (h : i < fs.length) : atI (fs.map V.int) k = some (.int (fs.getD i 0)) := by
  subst e
  exact atI_nat (by rw [List.getElem?_map, List.getElem?_eq_getElem h, List.getD_eq_getElem?_getD, List.getElem?_eq_getElem h] <;> rfl)
section
variable {X : Cx}
theorem kc_max3 (hc : X.calm = true) : CallR X (.builtin "max") (fun xs H Q => ∃ i j k, xs = [.int i, .int j, .int k] ∧ Q (.int (if k > (if j > i then j else i) then k else (if j > i then j else i))) H) := by
  intro pins s σ H xs us Q I r h
  obtain ⟨i, j, k, rfl, q⟩ := h
  refine call_max3Nu hc pins s σ H _ us Q I r ⟨_, _, _, _, rfl, ?_, q⟩
  have e : ∀ a b : Int, nuMax2 (.int a) (.int b) = some (.int (if b > a then b else a)) := fun a b => by
    show ((some (decide (a < b))).map fun c => if c = true then V.int b else V.int a) = _
    by_cases c : a < b
    · rw [decide_eq_true c, if_pos c] <;> rfl
    · rw [decide_eq_false c, if_neg c] <;> rfl
  unfold nuMax3
  rw [e]
  exact e _ _
end
/-! ## draws from a reel -/
def sp_pull0 : Sp := fun vs H Q _ => ∃ (p : Addr) (x y z c : Int) (n : Nat), vs = [.ref p, .int c] ∧ H p = some (reelL x y z) ∧ RB (n + 1) x y z ∧ 0 < c ∧ c < 2 ^ 29 ∧
  ∀ x' z' r, RB n x' y z' → 0 ≤ r → r < c → Q (.int r) (upd H p (reelL x' y z'))
/-- a draw: 0 <= r < c -/
def sp_pull : Sp := fun vs H Q _ => ∃ (p : Addr) (c : Int) (n : Nat), vs = [.ref p, .int c] ∧ H p = some (rl n p) ∧ 1 ≤ n ∧ 0 < c ∧ c < 2 ^ 29 ∧
  ∀ r H', Sr p n (n - 1) H H' → 0 ≤ r → r < c → Q (.int r) H'
theorem pull_of {P : Program} {w : World} {K : PySem.W.Frag} {mg : Str → Option Value} {base : Heap} {f : Addr} {fd : FuncData} {ps : List Str} (z : Dok P w K mg base CX0 1 f fd ps sp_pull0) (hl : ps.length = 2) : Dok P w K mg base CX0 1 f fd ps sp_pull := by
  refine Dok.reel z (fun vs H Q E h => ?_) (fun vs H Q E h => ?_)
  · obtain ⟨p, c, n, rfl, _⟩ := h
    exact hl.symm
  obtain ⟨p, c, n, rfl, hp, n1, c0, c1, k⟩ := h
  obtain ⟨m, rfl⟩ : ∃ m, n = m + 1 := ⟨n - 1, by omega⟩
  refine ⟨p, m + 1, hp, fun x y z b => ⟨p, x, y, z, c, m, rfl, upd_same, b, c0, c1, fun x' z' r b' r0 r1 => ?_⟩⟩
  refine ⟨H, p, x', y, z', m, b', upd_upd, k r _ ⟨hp, upd_same, fun b o d e => ?_⟩ r0 r1⟩
  rw [upd_ne d]
  exact e
/-- the first draw of a row of them gives one of a few whole numbers -/
theorem pick {xs : List Int} {r : Int} (h0 : 0 ≤ r) (h1 : r < (xs.length : Int)) : ∃ i, atI (xs.map V.int) r = some (.int i) ∧ i ∈ xs := by
  obtain ⟨v, e, m⟩ := at_mem (xs := xs.map V.int) h0 (by rw [List.length_map]; exact h1)
  obtain ⟨i, hi, rfl⟩ := List.mem_map.mp m
  exact ⟨i, e, hi⟩
def sp_spool0 (K : PySem.W.Frag) : Sp := fun vs H Q _ => ∃ (a : Addr) (ns : List Int) (k : Int), vs = [.ref a, .int k] ∧ SqL K H a (ns.map V.int) ∧ 0 ≤ k ∧ k ≤ 1000 ∧
  ∀ p x y, H p = none → RB 1000000 x y 0 → Q (.ref p) (upd H p (reelL x y 0))
/-- a new reel, good for a million draws -/
def sp_spool (K : PySem.W.Frag) : Sp := fun vs H Q _ => ∃ (a : Addr) (ns : List Int) (k : Int), vs = [.ref a, .int k] ∧ SqL K H a (ns.map V.int) ∧ 0 ≤ k ∧ k ≤ 1000 ∧
  ∀ p H', H p = none → Same H H' → H' p = some (rl 1000000 p) → Q (.ref p) H'
theorem spool_of {P : Program} {w : World} {K : PySem.W.Frag} {mg : Str → Option Value} {base : Heap} {f : Addr} {fd : FuncData} {ps : List Str} (z : Dok P w K mg base CX0 1 f fd ps (sp_spool0 K)) : Dok P w K mg base CX0 1 f fd ps (sp_spool K) := by
  refine Dok.made z (fun vs H Q E h => ?_)
  obtain ⟨a, ns, k, rfl, hS, k0, k1, q⟩ := h
  exact ⟨a, ns, k, rfl, hS, k0, k1, fun p x y hp b => ⟨H, p, x, y, 0, 1000000, b, rfl, q p _ hp (same_new hp) upd_same⟩⟩
/-! ## the greatest sum of a stretch, walked -/
theorem ixn {n i : Nat} (h : i < n) : ixN n (i : Int) = some i := by
  unfold ixN
  rw [if_pos (by omega), if_pos (by omega)]
  rfl
/-- here: the greatest sum of a stretch that ends ahead of n, or nought -/
def Kd (f : Nat → Int) (n : Nat) (h : Int) : Prop := Top (fun v => v = 0 ∨ ∃ i, i < n ∧ v = pre f n - pre f i) h
/-- sums of stretches of f ahead of n, beside what S holds -/
def Kb (S : Int → Prop) (f : Nat → Int) (n : Nat) : Int → Prop := fun v => S v ∨ ∃ i j, i < j ∧ j ≤ n ∧ v = pre f j - pre f i
theorem kd_zero (f : Nat → Int) : Kd f 0 0 := ⟨.inl rfl, fun v h => by
  rcases h with rfl | ⟨i, hi, _⟩
  · exact Int.le_refl _
  · omega⟩
theorem kd_step {f : Nat → Int} {n : Nat} {h : Int} (k : Kd f n h) : Kd f (n + 1) (if h + f n > 0 then h + f n else 0) := by
  have h0 : 0 ≤ h := k.le 0 (.inl rfl)
  constructor
  · split
    · refine .inr ?_
      rcases k.mem with e | ⟨i, hi, e⟩
      · exact ⟨n, Nat.lt_succ_self n, by rw [pre_succ]; omega⟩
      · exact ⟨i, Nat.lt_succ_of_lt hi, by rw [pre_succ]; omega⟩
    · exact .inl rfl
  · rintro v (rfl | ⟨i, hi, rfl⟩)
    · split <;> omega
    · rw [pre_succ]
      rcases Nat.lt_or_ge i n with c | c
      · have := k.le _ (.inr ⟨i, c, rfl⟩)
        split <;> omega
      · have e : i = n := by omega
        subst e
        split <;> omega
theorem kb_zero (S : Int → Prop) (f : Nat → Int) (v : Int) : Kb S f 0 v ↔ S v := ⟨fun h => by
  rcases h with h | ⟨i, j, a, b, _⟩
  · exact h
  · omega, .inl⟩
theorem Top.congr {S T : Int → Prop} {b : Int} (h : Top S b) (e : ∀ v, S v ↔ T v) : Top T b := ⟨(e b).mp h.mem, fun v hv => h.le v ((e v).mpr hv)⟩
theorem kb_step {S : Int → Prop} {f : Nat → Int} {n : Nat} {h b : Int} (s0 : S 0) (k : Kd f (n + 1) h) (t : Top (Kb S f n) b) : Top (Kb S f (n + 1)) (if h > b then h else b) := by
  constructor
  · split
    · rcases k.mem with e | ⟨i, hi, e⟩
      · rw [e]
        exact .inl s0
      · exact .inr ⟨i, n + 1, hi, Nat.le_refl _, e⟩
    · rcases t.mem with e | ⟨i, j, a, b, e⟩
      · exact .inl e
      · exact .inr ⟨i, j, a, Nat.le_succ_of_le b, e⟩
  · rintro v (c | ⟨i, j, a, c, rfl⟩)
    · have := t.le v (.inl c)
      split <;> omega
    · rcases Nat.lt_or_ge n j with d | d
      · have e : j = n + 1 := by omega
        subst e
        have := k.le _ (.inr ⟨i, a, rfl⟩)
        split <;> omega
      · have := t.le _ (.inr ⟨i, j, a, d, rfl⟩)
        split <;> omega
theorem top_zero : Top (fun v => v = 0) 0 := ⟨rfl, fun v h => by omega⟩
theorem same_tt {Q : VK} {H : Hp} {x y : V} (e : x = y) (q : Q (.bl true) H) : Q (.bl (decide (x = y))) H := by
  rw [decide_eq_true e]
  exact q
theorem bl_tt {x y : V} (e : x = y) : V.bl (decide (x = y)) = V.bl true := by rw [decide_eq_true e]
theorem bl_ff {x y : V} (e : x ≠ y) : V.bl (decide (x = y)) = V.bl false := by rw [decide_eq_false e]
theorem bl_nn {x y : V} (e : x = y) : V.bl (!decide (x = y)) = V.bl false := by rw [decide_eq_true e] <;> rfl
theorem bl_ny {x y : V} (e : x ≠ y) : V.bl (!decide (x = y)) = V.bl true := by rw [decide_eq_false e] <;> rfl
/-! ## a list of own lists -/
/-- at D a list of lists, each its own and none there in Hb -/
structure LLs (Hb : Hp) (D : Addr) (H : Hp) (rs : List Addr) (ls : List (List Int)) : Prop where
  at_ : H D = some (.lst (rs.map V.ref))
  len : rs.length = ls.length
  nd : rs.Nodup
  get : ∀ (j : Nat) (r : Addr), rs[j]? = some r → Hb r = none ∧ r ≠ D ∧ ∃ l, ls[j]? = some l ∧ H r = some (.lst (l.map V.int))
section
variable {Hb H H' H0 : Hp} {D D2 r : Addr} {rs rs2 : List Addr} {ls ls2 : List (List Int)} {l : List Int}
theorem LLs.same (h : LLs Hb D H rs ls) (s : Same H H') : LLs Hb D H' rs ls := ⟨s _ _ h.at_, h.len, h.nd, fun j r e => by
  obtain ⟨a, b, l, c, d⟩ := h.get j r e
  exact ⟨a, b, l, c, s _ _ d⟩⟩
theorem LLs.nil : LLs Hb D (upd H D (.lst [])) [] [] := ⟨upd_same, rfl, List.nodup_nil, fun j r e => by simp at e⟩
theorem LLs.push (h : LLs Hb D H rs ls) (nr : H r = none) (hb : Hb r = none) : LLs Hb D (upd (upd H r (.lst (l.map V.int))) D (.lst (rs.map V.ref ++ [.ref r]))) (rs ++ [r]) (ls ++ [l]) := by
  have rD : r ≠ D := (ne_of_none h.at_ nr).symm
  refine ⟨by rw [upd_same, List.map_append] <;> rfl, by rw [List.length_append, List.length_append, h.len] <;> rfl, ?_, fun j r' e => ?_⟩
  · refine List.nodup_append.mpr ⟨h.nd, by simp, fun y hy z hz => ?_⟩
    simp only [List.mem_singleton] at hz
    subst hz
    obtain ⟨j, hj⟩ := List.mem_iff_getElem?.mp hy
    obtain ⟨_, _, _, _, d⟩ := h.get j y hj
    exact ne_of_none d nr
  · by_cases hj : j < rs.length
    · rw [List.getElem?_append_left hj] at e
      obtain ⟨a, b, l', c, d⟩ := h.get j r' e
      refine ⟨a, b, l', by rw [List.getElem?_append_left (by rw [← h.len]; exact hj)]; exact c, ?_⟩
      rw [upd_ne b, upd_ne (ne_of_none d nr)]
      exact d
    · have ej : j = rs.length := by
        have := (List.getElem?_eq_some_iff.mp e).1
        simp at this
        omega
      subst ej
      rw [List.getElem?_append_right (Nat.le_refl _), Nat.sub_self] at e
      cases (Option.some.inj e : r = r')
      refine ⟨hb, rD, l, by rw [h.len, List.getElem?_append_right (Nat.le_refl _), Nat.sub_self] <;> rfl, ?_⟩
      rw [upd_ne rD]
      exact upd_same
theorem nd_at {rs : List Addr} (nd : rs.Nodup) {i j : Nat} {r : Addr} (a : rs[i]? = some r) (b : rs[j]? = some r) : i = j := by
  obtain ⟨hi, ei⟩ := List.getElem?_eq_some_iff.mp a
  obtain ⟨hj, ej⟩ := List.getElem?_eq_some_iff.mp b
  exact (List.getElem_inj nd).mp (ei.trans ej.symm)
theorem LLs.put (h : LLs Hb D H rs ls) {j : Nat} (e : rs[j]? = some r) : LLs Hb D (upd H r (.lst (l.map V.int))) rs (ls.set j l) := by
  obtain ⟨a, b, l0, c, d⟩ := h.get j r e
  refine ⟨by rw [upd_ne b.symm]; exact h.at_, by rw [List.length_set]; exact h.len, h.nd, fun i r' e' => ?_⟩
  obtain ⟨a', b', l', c', d'⟩ := h.get i r' e'
  by_cases hij : i = j
  · subst hij
    cases (Option.some.inj (e'.symm.trans e) : r' = r)
    have hl : i < ls.length := (List.getElem?_eq_some_iff.mp c').1
    exact ⟨a, b, l, List.getElem?_set_self hl, upd_same⟩
  · have ne : r' ≠ r := fun z => hij (nd_at h.nd e' (z ▸ e))
    refine ⟨a', b', l', by rw [List.getElem?_set_ne (fun z => hij z.symm)]; exact c', by rw [upd_ne ne]; exact d'⟩
theorem LLs.ext (h : LLs Hb D H rs ls) (g : LLs H0 D2 H rs2 ls2) (old : LLs Hb D H0 rs ls) (sub : ∀ r, H0 r = none → Hb r = none) : LLs Hb D (upd H D (.lst (rs.map V.ref ++ rs2.map V.ref))) (rs ++ rs2) (ls ++ ls2) := by
  refine ⟨by rw [upd_same, List.map_append], by rw [List.length_append, List.length_append, h.len, g.len], ?_, fun j r' e => ?_⟩
  · refine List.nodup_append.mpr ⟨h.nd, g.nd, fun y hy z hz q => ?_⟩
    subst q
    obtain ⟨i, hi⟩ := List.mem_iff_getElem?.mp hy
    obtain ⟨j, hj⟩ := List.mem_iff_getElem?.mp hz
    obtain ⟨_, _, _, _, d⟩ := old.get i y hi
    obtain ⟨d2, _⟩ := g.get j y hj
    rw [d2] at d
    cases d
  · by_cases hj : j < rs.length
    · rw [List.getElem?_append_left hj] at e
      obtain ⟨a, b, l', c, d⟩ := h.get j r' e
      refine ⟨a, b, l', by rw [List.getElem?_append_left (by rw [← h.len]; exact hj)]; exact c, ?_⟩
      rw [upd_ne b]
      exact d
    · rw [List.getElem?_append_right (by omega)] at e
      obtain ⟨a, b, l', c, d⟩ := g.get _ r' e
      have rD : r' ≠ D := (ne_of_none old.at_ a).symm
      refine ⟨sub _ a, rD, l', by rw [List.getElem?_append_right (by rw [← h.len]; omega), ← h.len]; exact c, ?_⟩
      rw [upd_ne rD]
      exact d
theorem LLs.item (h : LLs Hb D H rs ls) {j : Nat} (hj : j < ls.length) : ∃ r l, rs[j]? = some r ∧ ls[j]? = some l ∧ atI (rs.map V.ref) (j : Int) = some (.ref r) ∧ H r = some (.lst (l.map V.int)) := by
  have hj2 : j < rs.length := by rw [h.len]; exact hj
  obtain ⟨a, b, l, c, d⟩ := h.get j rs[j] (List.getElem?_eq_getElem hj2)
  exact ⟨rs[j], l, List.getElem?_eq_getElem hj2, c, atI_nat (by rw [List.getElem?_map, List.getElem?_eq_getElem hj2] <;> rfl), d⟩
/-- seen from a heap with less in it -/
theorem LLs.sub {Hc : Hp} (h : LLs Hb D H rs ls) (s : ∀ r, Hb r = none → Hc r = none) : LLs Hc D H rs ls := ⟨h.at_, h.len, h.nd, fun j r e => by
  obtain ⟨a, b⟩ := h.get j r e
  exact ⟨s _ a, b⟩⟩
/-- as data -/
theorem LLs.dt (h : LLs Hb D H rs ls) : Dt H (.ref D) (.list (ls.map intsD)) := by
  refine .lst h.at_ ?_
  have core : ∀ (rs : List Addr) (ls : List (List Int)), rs.length = ls.length → (∀ (j : Nat) (r : Addr), rs[j]? = some r → ∃ l, ls[j]? = some l ∧ H r = some (.lst (l.map V.int))) → DtAll H (rs.map V.ref) (ls.map intsD) := by
    intro rs
    induction rs with
    | nil =>
      intro ls hl _
      cases ls with
      | nil => exact .nil
      | cons l ls => cases hl
    | cons r rs ih =>
      intro ls hl h
      cases ls with
      | nil => cases hl
      | cons l ls =>
        obtain ⟨l', e1, e2⟩ := h 0 r rfl
        cases (Option.some.inj e1 : l = l')
        exact .cons (dt_intsL e2) (ih ls (Nat.succ.inj hl) fun j r e => h (j + 1) r e)
  exact core rs ls h.len fun j r e => (h.get j r e).2.2
theorem LLs.new (h : LLs Hb D H rs ls) (s : ∀ b o, b ≠ D → b ∉ rs → Hb b = some o → H b = some o) (nD : Hb D = none) : Same Hb H := fun b o e => by
  refine s b o (ne_of_none e nD) (fun hm => ?_) e
  obtain ⟨j, hj⟩ := List.mem_iff_getElem?.mp hm
  rw [(h.get j b hj).1] at e
  cases e
end
section
variable {X : Cx} {K : PySem.W.Frag}
theorem kc_sum (e : X.K = K) (hc : X.calm = true) : CallR X (.builtin "sum") (rSum K) := by
  subst e
  exact cr_sum hc
end
theorem map_range_set {m j : Nat} {F G : Nat → List Int} (e : ∀ h, h < m → h ≠ j → G h = F h) : (List.range m).map G = ((List.range m).map F).set j (G j) := by
  refine List.ext_getElem? fun i => ?_
  by_cases hi : i < m
  · by_cases c : j = i
    · subst c
      rw [List.getElem?_set_self (by simp [hi]), List.getElem?_map, List.getElem?_range hi] <;> rfl
    · rw [List.getElem?_set_ne c, List.getElem?_map, List.getElem?_map, List.getElem?_range hi]
      show some (G i) = some (F i)
      rw [e i hi fun z => c z.symm]
  · rw [List.getElem?_eq_none (by simp; omega), List.getElem?_eq_none (by simp; omega)]
theorem long_ok2 {n : Nat} (h : n ≤ 10000000) : n < sizeLine := Nat.lt_of_le_of_lt h (by decide)
theorem LLs.other {Hb H : Hp} {D b : Addr} {o : HO} {rs : List Addr} {ls : List (List Int)} (h : LLs Hb D H rs ls) (nb : b ≠ D) (hb : Hb b ≠ none) : LLs Hb D (upd H b o) rs ls :=
  ⟨by rw [upd_ne nb.symm]; exact h.at_, h.len, h.nd, fun j r e => by
    obtain ⟨a, c, l, d, f⟩ := h.get j r e
    exact ⟨a, c, l, d, by rw [upd_ne (fun z : r = b => hb (by rw [← z]; exact a))]; exact f⟩⟩
section
variable {X : Cx} {K : PySem.W.Frag}
theorem kc_any (e : X.K = K) (hc : X.calm = true) : CallR X (.builtin "any") (rAny K) := by
  subst e
  exact cr_any hc
end
section
variable {X : Cx}
def rNiI : R2 := fun x y H Q => ∃ (z : Int) (a : Addr) (S : Int → Bool) (n : Nat), x = .int z ∧ y = .ref a ∧ H a = some (.set S n) ∧ Q (.bl (!S z)) H
theorem op_niI : OpR X (compareOp .NotIn) rNiI := by
  intro pins s σ H x y v u Q I rx ry h
  obtain ⟨z, a, S, n, rfl, rfl, ha, q⟩ := h
  obtain ⟨t, rfl⟩ := rx
  cases (show u = Value.ref a from ry)
  have hS : s.heap.SetOf (intKind X.prog X.w) a S n := I.hok a _ ha
  exact wpAny_notInSet_of (knd := intKind X.prog X.w) (k := z) (by simp [intKind, Value.isInt]) rfl hS ⟨.bl (!S z), H, I.tok _, rfl, q⟩
end
end Xi

namespace Lw
open PySem PySem.Spec PyProof.Rows L2 Xi
def topS (i : Nat) : Stmt := PySem.Challenge.pw_pleatpunch_k51_fewest_seen_told.main.body.getD i (.Pass ⟨0, 0, 0, 0⟩)
structure Txt (mg : Str → Option Value) : Prop where
  enumerate : mg "enumerate" = none
  int : mg "int" = none
  len : mg "len" = none
  max : mg "max" = none
  min : mg "min" = none
  range : mg "range" = none
  repr : mg "repr" = none
abbrev s_law_till : Stmt := topS 6
theorem sc_law_till : FnScope ["script", "k", "cell", "size"] ["script", "k"] (defScope s_law_till) := ⟨rfl, rfl, rfl, by decide +kernel, rfl, by decide +kernel, by decide +kernel⟩

abbrev s_law_tip : Stmt := topS 7
theorem sc_law_tip : FnScope ["till", "wide", "found"] ["till", "wide"] (defScope s_law_tip) := ⟨rfl, rfl, rfl, by decide +kernel, rfl, by decide +kernel, by decide +kernel⟩

section
variable {P : Program} {w : World} {K : PySem.W.Frag} {mg : Str → Option Value} {base : Heap}
theorem ok_tip0 {f : Addr} {fd : FuncData} (F : Fun K "_law_tip" "_law_tip" s_law_tip f fd) : Dok P w K mg base CX0 1 f fd ["till", "wide"] sp_pull0 := by
  refine Dok.calm F sc_law_tip (fun vs H Q E h => ?_) (fun cdv A outer s H vs Q E hr h => ?_)
  · obtain ⟨p, x, y, z, c, n, rfl, _⟩ := h
    rfl
  obtain ⟨p, x, y, z, c, n, rfl, hp, ⟨bx, by0, by1, bz, bn⟩, c0, c1, k⟩ := h
  refine ⟨_, (pss_cons (ps_if (pt_cmpR op_gt (pe_ix (k_ixL (K := K) rfl) (pv 0) pe_int (fun _ _ => rfl)) pe_int (nomark _)) (pss_cons (ps_set (i := 2) sc_law_tip.nd rfl (Or.inl rfl) (pe_op op_modN (pe_ix (k_ixL (K := K) rfl) (pv 0) pe_int (fun _ _ => rfl)) (pv 1)))
    (pss_cons (ps_asg (pe_op op_fdivN (pe_ix (k_ixL (K := K) rfl) (pv 0) pe_int (fun _ _ => rfl)) (pv 1)) (pg_sub (pv 0) pe_int set_list))
    (pss_one (ps_ret (pv 2))))) pss_nil)
    (pss_cons (ps_asg (pe_op op_add (pe_ix (k_ixL (K := K) rfl) (pv 0) pe_int (fun _ _ => rfl)) pe_int) (pg_sub (pv 0) pe_int set_list))
    (pss_cons (ps_set (i := 2) sc_law_tip.nd rfl (Or.inl rfl) (pe_op op_modN (pe_op op_add (pe_ix (k_ixL (K := K) rfl) (pv 0) pe_int (fun _ _ => rfl)) (pe_op op_mul (pe_ix (k_ixL (K := K) rfl) (pv 0) pe_int (fun _ _ => rfl)) pe_int)) pe_int))
    (pss_cons (ps_set (i := 2) sc_law_tip.nd rfl (Or.inl rfl) (pe_op op_modN (pe_op op_add (pe_op op_add (pe_op op_mul (pv 2) (pv 2)) (pe_op op_mul (pe_ix (k_ixL (K := K) rfl) (pv 0) pe_int (fun _ _ => rfl)) (pe_ix (k_ixL (K := K) rfl) (pv 0) pe_int (fun _ _ => rfl)))) pe_int) pe_int))
    (pss_one (ps_ret (pe_op op_modN (pe_op op_fdivN (pe_op op_modN (pe_op op_mul (pv 2) (pv 2)) pe_int) pe_int) (pv 1)))))))), ?_⟩
  have hS : ∀ {H : Hp} {x y z : Int}, H p = some (reelL x y z) → SqL K H p [.int x, .int y, .int z] := fun h => SqL.of h
  refine ⟨.ref p, rfl, p, _, 0, .int x, rfl, rfl, hS hp, rfl, x, 0, rfl, rfl, _, rfl, ite2 (fun h0 => ?_) (fun _ => ?_)⟩
  · have cd : c ≠ 0 ∧ c.natAbs < 1073741824 := by
      have : (2 : Int) ^ 29 = 536870912 := by decide
      omega
    refine ⟨.ref p, rfl, p, _, 0, .int x, rfl, rfl, hS hp, rfl, .int c, rfl, x, c, rfl, rfl, cd.1, ?_⟩
    refine ⟨.ref p, rfl, p, _, 0, .int x, rfl, rfl, hS hp, rfl, .int c, rfl, x, c, rfl, rfl, cd, .ref p, rfl, p, _, 0, 0, rfl, rfl, hp, rfl, .int (x.fmod c), rfl, ?_⟩
    exact k _ _ _ ⟨fdiv_bd bx c0, by0, by1, bz, by omega⟩ (fmod_lt c0).1 (fmod_lt c0).2
  · refine ⟨.ref p, rfl, p, _, 2, .int z, rfl, rfl, hS hp, rfl, z, 1, rfl, rfl, .ref p, rfl, p, _, 2, 2, rfl, rfl, hp, rfl, ?_⟩
    have hp2 : upd H p (reelL x y (z + 1)) p = some (reelL x y (z + 1)) := upd_same
    have zb : 0 ≤ z + 1 ∧ z + 1 ≤ 1000000000 := by omega
    have nz : (2305843009213693951 : Int) ≠ 0 := by decide
    refine ⟨.ref p, rfl, p, _, 1, .int y, rfl, rfl, hS hp2, rfl, .ref p, rfl, p, _, 2, .int (z + 1), rfl, rfl, hS hp2, rfl, z + 1, 104729, rfl, rfl, .inr ⟨by decide, by decide⟩, y, _, rfl, rfl, _, 2305843009213693951, rfl, rfl, nz, ?_⟩
    obtain ⟨u, hu⟩ : ∃ u, u = (y + (z + 1) * 104729).fmod 2305843009213693951 := ⟨_, rfl⟩
    have bu : 0 ≤ u ∧ u < 2305843009213693951 := by
      rw [hu]
      exact fmod_lt (by decide)
    have e64 : (2 : Int) ^ 64 = 18446744073709551616 := by decide
    refine ⟨.int u, by rw [hu]; rfl, .int u, by rw [hu]; rfl, u, u, rfl, rfl, .inl ⟨by omega, by omega⟩, .ref p, rfl, p, _, 2, .int (z + 1), rfl, rfl, hS hp2, rfl, .ref p, rfl, p, _, 1, .int y, rfl, rfl, hS hp2, rfl, z + 1, y, rfl, rfl, .inl ⟨by omega, by omega⟩, _, _, rfl, rfl, _, 7919, rfl, rfl, _, 2305843009213693951, rfl, rfl, nz, ?_⟩
    obtain ⟨v, hv⟩ : ∃ v, v = (u * u + (z + 1) * y + 7919).fmod 2305843009213693951 := ⟨_, rfl⟩
    have bv : 0 ≤ v ∧ v < 2305843009213693951 := by
      rw [hv]
      exact fmod_lt (by decide)
    refine ⟨.int v, by rw [hv]; rfl, .int v, by rw [hv]; rfl, v, v, rfl, rfl, .inl ⟨by omega, by omega⟩, _, 2305843009213693951, rfl, rfl, nz, _, 65537, rfl, rfl, ⟨by decide, by decide⟩, .int c, rfl, _, c, rfl, rfl, by omega, ?_⟩
    exact k _ _ _ ⟨bx, by0, by1, zb.1, by omega⟩ (fmod_lt c0).1 (fmod_lt c0).2
theorem ok_tip {f : Addr} {fd : FuncData} (o : Own K mg "_law_tip" s_law_tip ["till", "wide"] f fd) : Cal P w K mg base CX0 1 "_law_tip" s_law_tip ["till", "wide"] sp_pull :=
  ⟨f, fd, o, pull_of (ok_tip0 o.F) rfl⟩
theorem ok_till {f : Addr} {fd : FuncData} (o : Own K mg "_law_till" s_law_till ["script", "k"] f fd) (T : Txt mg) : Cal P w K mg base CX0 1 "_law_till" s_law_till ["script", "k"] (sp_spool K) := by
  refine ⟨f, fd, o, spool_of ?_⟩
  refine Dok.calm o.F sc_law_till (fun vs H Q E h => ?_) (fun cdv A outer s H vs Q E hr h => ?_)
  · obtain ⟨a, ns, k, rfl, _⟩ := h
    rfl
  obtain ⟨a, ns, k, rfl, hS, k0, k1, q⟩ := h
  refine ⟨_, (pss_cons (ps_set (i := 2) sc_law_till.nd rfl (Or.inl rfl) (pe_ifExp (pt_cmpR op_lt (pv 1) (pe_callB (kc_len (K := K) rfl) (by rfl) T.len (by decide +kernel) (pa_cons (pv 0) pa_nil)) (nomark _)) (pe_ix (k_ixL (K := K) rfl) (pv 0) (pv 1) (fun _ _ => rfl)) pe_int))
    (pss_cons (ps_set (i := 3) sc_law_till.nd rfl (Or.inl rfl) (pe_op op_modN (pe_callB (call_max2 rfl) (by rfl) T.max (by decide +kernel) (pa_cons (pv 2) (pa_cons (pe_op op_sub pe_int (pv 2)) pa_nil))) (pe_op op_powW (pe_op op_pow pe_int pe_int) pe_int)))
    (pss_one (ps_ret (pe_lst (pa_cons (pe_callB (call_max2 rfl) (by rfl) T.max (by decide +kernel) (pa_cons pe_int (pa_cons (pe_op op_sub (pv 3) (pe_op op_pow pe_int pe_int)) pa_nil))) (pa_cons (pe_op op_modN (pe_op op_add (pe_op op_add (pe_op op_mul (pv 3) pe_int) (pe_op op_mul pe_int (pv 1))) pe_int) pe_int) (pa_cons pe_int pa_nil)))))))), ?_⟩
  dsimp only [tSeq, gName]
  have e60 : (10 : Int) ^ 60 = 1000000000000000000000000000000000000000000000000000000000000 := by decide
  have b60 : ((10 : Int) ^ Int.toNat 60).natAbs < 2 ^ 200 := by decide
  have n600 : ((10 : Int) ^ Int.toNat 60) ^ Int.toNat 10 ≠ 0 := by decide +kernel
  have p600 : 0 < ((10 : Int) ^ Int.toNat 60) ^ Int.toNat 10 := by decide +kernel
  have nz : (2305843009213693951 : Int) ≠ 0 := by decide
  refine with_nx (t := tAsg _ _) (fun σ H' => ∃ cell : Int, H' = H ∧ σ = [some (.ref a), some (.int k), some (.int cell), none]) ?_ (fun rest => ?_)
  · rintro σ H' ⟨cell, rfl, rfl⟩
    refine ⟨.int cell, rfl, .int cell, rfl, 0, cell, rfl, rfl, cell, _, rfl, 10, 60, rfl, rfl, ⟨by decide, by decide, by decide⟩, _, 10, rfl, rfl, powk b60 (by decide) (by decide) (by decide) (by decide), _, _, rfl, rfl, n600, ?_⟩
    obtain ⟨z, hz⟩ : ∃ z, z = (if 0 - cell > cell then 0 - cell else cell).fmod (((10 : Int) ^ Int.toNat 60) ^ Int.toNat 10) := ⟨_, rfl⟩
    have z0 : 0 ≤ z := by
      rw [hz]
      exact (fmod_lt p600).1
    refine ⟨.int z, by rw [hz]; rfl, 10, 18, rfl, rfl, ⟨by decide, by decide, by decide⟩, _, _, rfl, rfl, _, _, rfl, ?_⟩
    refine ⟨.int z, by rw [hz]; rfl, z, 48271, rfl, rfl, .inr ⟨by decide, by decide⟩, .int k, rfl, 1009, k, rfl, rfl, .inl ⟨by decide, by decide⟩, _, _, rfl, rfl, _, 77, rfl, rfl, _, _, rfl, rfl, nz, (by show 3 ≤ sizeLine; decide), fun p hp => ?_⟩
    refine q p _ _ hp ⟨by split <;> omega, ?_⟩
    have b := fmod_lt (a := z * 48271 + 1009 * k + 77) (c := 2305843009213693951) (by decide)
    have e200 : (2 : Int) ^ 200 = 1606938044258990275541962092341162602522202993782792835301376 := by decide
    show 0 ≤ (z * 48271 + 1009 * k + 77).fmod 2305843009213693951 ∧ (z * 48271 + 1009 * k + 77).fmod 2305843009213693951 < 2 ^ 200 ∧ (0 : Int) ≤ 0 ∧ (0 : Int) + ((1000000 : Nat) : Int) ≤ 1000000000
    omega
  · refine ⟨.int k, rfl, .ref a, rfl, a, _, rfl, .inl hS, k, _, rfl, rfl, _, rfl, ite2 (fun c => ?_) (fun c => ?_)⟩
    · have hk : k < ((ns.map V.int).length : Int) := of_decide_eq_true c
      obtain ⟨v, e, m⟩ := at_mem k0 hk
      obtain ⟨cell, _, rfl⟩ := List.mem_map.mp m
      exact ⟨.ref a, rfl, .int k, rfl, a, _, k, .int cell, rfl, rfl, hS, e, rest _ _ ⟨_, rfl, rfl⟩⟩
    · exact rest _ _ ⟨0, rfl, rfl⟩
end
abbrev s_law_counts : Stmt := topS 8
theorem sc_law_counts : FnScope ["till", "most", "number", "far", "rare", "way", "side", "found", "cell", "kept"] ["till", "most"] (defScope s_law_counts) := ⟨rfl, rfl, rfl, by decide +kernel, rfl, by decide +kernel, by decide +kernel⟩

section
variable {P : Program} {w : World} {K : PySem.W.Frag} {mg : Str → Option Value} {base : Heap}
/-- drawn counts, a new list of at most m numbers from 0 to 99 -/
def sp_counts : Sp := fun vs H Q _ => ∃ (p : Addr) (m : Int) (n : Nat), vs = [.ref p, .int m] ∧ H p = some (rl n p) ∧ 2000 ≤ n ∧ 1 ≤ m ∧ m ≤ 200 ∧
  ∀ q H' (n' : Nat) (ns : List Int), n ≤ n' + 2000 → Sr p n n' H H' → H q = none → H' q = some (.lst (ns.map V.int)) → 1 ≤ ns.length → (ns.length : Int) ≤ m → (∀ x ∈ ns, 0 ≤ x ∧ x ≤ 99) → Q (.ref q) H'
theorem ok_counts {f : Addr} {fd : FuncData} (o : Own K mg "_law_counts" s_law_counts ["till", "most"] f fd) (T : Txt mg) (C_law_tip : Cal P w K mg base CX0 1 "_law_tip" s_law_tip ["till", "wide"] sp_pull) :
    Cal P w K mg base CX0 2 "_law_counts" s_law_counts ["till", "most"] sp_counts := by
  refine ⟨f, fd, o, ?_⟩
  refine Dok.calm o.F sc_law_counts (fun vs H Q E h => ?_) (fun cdv A outer s H vs Q E hr h => ?_)
  · obtain ⟨p, m, n, rfl, _⟩ := h
    rfl
  obtain ⟨p, m, n, rfl, hp, hn, m1, m2, k⟩ := h
  refine ⟨_, (pss_cons (ps_set (i := 2) sc_law_counts.nd rfl (Or.inl rfl) (pe_ix (k_ixL (K := K) rfl) (pe_lst (pa_cons (pe_op op_add pe_int (c_call C_law_tip (hr.mono (by omega)) pass0 (pa_cons (pv 0) (pa_cons (pv 1) pa_nil)))) (pa_cons (pv 1) pa_nil))) (pe_op op_fdivN (c_call C_law_tip (hr.mono (by omega)) pass0 (pa_cons (pv 0) (pa_cons pe_int pa_nil))) pe_int) (fun _ _ => rfl)))
    (pss_cons (ps_par (i := 3) (j := 4) (by rfl) sc_law_counts.nd rfl rfl (by decide) rfl rfl (pa_cons (pe_ix (k_ixL (K := K) rfl) (pe_lst (pa_cons pe_int (pa_cons pe_int (pa_cons pe_int (pa_cons pe_int pa_nil))))) (c_call C_law_tip (hr.mono (by omega)) pass0 (pa_cons (pv 0) (pa_cons pe_int pa_nil))) (fun _ _ => rfl)) (pa_cons (pe_op op_add pe_int (c_call C_law_tip (hr.mono (by omega)) pass0 (pa_cons (pv 0) (pa_cons pe_int pa_nil)))) pa_nil)) (by rfl))
    (pss_cons (ps_par (i := 5) (j := 6) (by rfl) sc_law_counts.nd rfl rfl (by decide) rfl rfl (pa_cons (c_call C_law_tip (hr.mono (by omega)) pass0 (pa_cons (pv 0) (pa_cons pe_int pa_nil))) (pa_cons (c_call C_law_tip (hr.mono (by omega)) pass0 (pa_cons (pv 0) (pa_cons pe_int pa_nil))) pa_nil)) (by rfl))
    (pss_cons (ps_set (i := 7) sc_law_counts.nd rfl (Or.inl rfl) (pe_lst pa_nil))
    (pss_cons (ps_for PassesOwn.never rfl (pi_range1 rfl T.range (pa_cons (pv 2) pa_nil)) (pg_name (i := 8) sc_law_counts.nd rfl (Or.inl rfl)) (pss_cons (ps_set (i := 6) sc_law_counts.nd rfl (Or.inl rfl) (pe_ifExp (pt_cmpR op_eq (c_call C_law_tip (hr.mono (by omega)) pass0 (pa_cons (pv 0) (pa_cons pe_int pa_nil))) pe_int (nomark _)) (pe_op op_sub pe_int (pv 6)) (pv 6)))
    (pss_cons (ps_set (i := 9) sc_law_counts.nd rfl (Or.inl rfl) (pe_ifExp (pt_cmpR op_lt (pv 5) pe_int (nomark _)) (pe_cmpR op_eq (c_call C_law_tip (hr.mono (by omega)) pass0 (pa_cons (pv 0) (pa_cons (pv 4) pa_nil))) pe_int (nomark _)) (pe_cmpR op_eq (pe_op op_modN (pv 8) pe_int) (pv 6) (nomark _))))
    (pss_one (ps_expr (pe_bm PySem.F.plainAttrs_list PySem.F.slot_list_append PySem.F.type_list_append mt_append (pv 7) (pa_cons (pe_ix (k_ixL (K := K) rfl) (pe_lst (pa_cons pe_int (pa_cons (c_call C_law_tip (hr.mono (by omega)) pass0 (pa_cons (pv 0) (pa_cons (pv 3) pa_nil))) (pa_cons pe_int pa_nil)))) (pe_op op_add (pe_callTy call_int1 (by rfl) T.int (by decide +kernel) (pa_cons (pv 9) pa_nil)) (pe_callTy call_int1 (by rfl) T.int (by decide +kernel) (pa_cons (pe_and (pv 9) (pe_one (pe_cmpR op_eq (c_call C_law_tip (hr.mono (by omega)) pass0 (pa_cons (pv 0) (pa_cons pe_int pa_nil))) pe_int (nomark _)))) pa_nil))) (fun _ _ => rfl)) pa_nil)))))))
    (pss_one (ps_ret (pv 7)))))))), ?_⟩
  -- number
  refine ⟨.ref p, rfl, .int m, rfl, p, m, n, rfl, hp, by omega, by omega, by omega, fun r1 H1 s1 a1 b1 => ⟨1, r1, rfl, rfl, .int m, rfl, (by show 2 ≤ sizeLine; decide), fun l1 hl1 => ?_⟩⟩
  have s2 := s1.new (o := .lst [.int (1 + r1), .int m]) hl1
  refine ⟨.ref p, rfl, p, 3, n - 1, rfl, s2.b, by omega, by decide, by decide, fun r2 H2 s3 a2 b2 => ⟨r2, 2, rfl, rfl, ⟨by decide, by decide⟩, ?_⟩⟩
  obtain ⟨nb, ev, mv⟩ := pick (xs := [1 + r1, m]) (r := r2.fdiv 2) (by rw [fdiv2]; omega) (by rw [fdiv2]; show r2 / 2 < 2; omega)
  have nb1 : 1 ≤ nb ∧ nb ≤ m := by
    simp only [List.mem_cons, List.not_mem_nil, or_false] at mv
    rcases mv with rfl | rfl <;> omega
  refine ⟨l1, _, r2.fdiv 2, .int nb, rfl, rfl, SqL.of (s3.lst upd_same), ev, ?_⟩
  have s4 := s2.trans s3
  -- far, rare
  refine ⟨(by show 4 ≤ sizeLine; decide), fun l2 hl2 => ?_⟩
  have s5 := s4.new (o := .lst [.int 2, .int 4, .int 10, .int 100]) hl2
  refine ⟨.ref p, rfl, p, 4, n - 1 - 1, rfl, s5.b, by omega, by decide, by decide, fun r3 H3 s6 a3 b3 => ?_⟩
  obtain ⟨far, ev2, mv2⟩ := pick (xs := [2, 4, 10, 100]) a3 (show r3 < 4 from b3)
  have far1 : 2 ≤ far ∧ far ≤ 100 := by
    simp only [List.mem_cons, List.not_mem_nil, or_false] at mv2
    rcases mv2 with rfl | rfl | rfl | rfl <;> omega
  refine ⟨l2, _, r3, .int far, rfl, rfl, SqL.of (s6.lst upd_same), ev2, ?_⟩
  have s7 := s5.trans s6
  refine ⟨.ref p, rfl, p, 4, n - 1 - 1 - 1, rfl, s7.b, by omega, by decide, by decide, fun r4 H4 s8 a4 b4 => ⟨1, r4, rfl, rfl, _, _, rfl, ?_⟩⟩
  have s9 := s7.trans s8
  -- way, side
  refine ⟨.ref p, rfl, p, 3, n - 1 - 1 - 1 - 1, rfl, s9.b, by omega, by decide, by decide, fun r5 H5 s10 a5 b5 => ?_⟩
  have s11 := s9.trans s10
  refine ⟨.ref p, rfl, p, 2, n - 1 - 1 - 1 - 1 - 1, rfl, s11.b, by omega, by decide, by decide, fun r6 H6 s12 a6 b6 => ⟨_, _, rfl, ?_⟩⟩
  have s13 := s11.trans s12
  -- found
  refine ⟨Nat.zero_le _, fun D hD => ?_⟩
  have nD : H D = none := s13.free hD
  have s14 := s13.new (o := .lst []) hD
  refine ⟨.int nb, rfl, nb, rfl, by omega, by omega, ?_⟩
  refine for_it walk_range (fun i σ H' => ∃ (sd : Int) (v8 v9 : Option V) (ns : List Int) (n' : Nat), σ = [some (.ref p), some (.int m), some (.int nb), some (.int far), some (.int (1 + r4)), some (.int r5), some (.int sd), some (.ref D), v8, v9] ∧ Sr p n n' H H' ∧ n ≤ n' + 6 + 5 * i ∧
      H' D = some (.lst (ns.map V.int)) ∧ ns.length = i ∧ ∀ x ∈ ns, 0 ≤ x ∧ x ≤ 99) ⟨r6, none, none, [], _, rfl, s14, by omega, upd_same, rfl, fun x hx => (by cases hx)⟩ (fun _ _ _ _ _ => True.intro) ?_ ?_
  · rintro i x σ H7 H7' hi ⟨sd, v8, v9, ns, n', rfl, t1, hn', eD, hl, hb⟩ ⟨rfl, rfl⟩
    have hi' : i < nb.toNat := hi
    dsimp only [gName, tSeq]
    -- side
    refine with_nx (t := tAsg _ _) (fun σ H' => ∃ (sd : Int) (n2 : Nat), σ = [some (.ref p), some (.int m), some (.int nb), some (.int far), some (.int (1 + r4)), some (.int r5), some (.int sd), some (.ref D), some (.int (0 + i)), v9] ∧ Sr p n n2 H H' ∧ n ≤ n2 + 7 + 5 * i ∧ H' D = some (.lst (ns.map V.int))) ?_ (fun rest => ?_)
    rotate_left
    · refine ⟨.ref p, rfl, p, 15, n', rfl, t1.b, by omega, by decide, by decide, fun r7 H8 t2 a7 b7 => ⟨rfl, _, rfl, ite2 (fun _ => ?_) (fun _ => ?_)⟩⟩
      · exact ⟨.int sd, rfl, 1, sd, rfl, rfl, rest _ _ ⟨_, _, rfl, t1.trans t2, by omega, t2.lst eD⟩⟩
      · exact ⟨.int sd, rfl, rest _ _ ⟨_, _, rfl, t1.trans t2, by omega, t2.lst eD⟩⟩
    rintro σ H8 ⟨sd, n2, rfl, t2, hn2, eD2⟩
    dsimp only [gName, tSeq]
    -- kept
    refine with_nx (t := tAsg _ _) (fun σ H' => ∃ (kp : Bool) (n3 : Nat), σ = [some (.ref p), some (.int m), some (.int nb), some (.int far), some (.int (1 + r4)), some (.int r5), some (.int sd), some (.ref D), some (.int (0 + i)), some (.bl kp)] ∧ Sr p n n3 H H' ∧ n ≤ n3 + 8 + 5 * i ∧ H' D = some (.lst (ns.map V.int))) ?_ (fun rest => ?_)
    rotate_left
    · refine ⟨.int r5, rfl, r5, 2, rfl, rfl, _, rfl, ite2 (fun _ => ?_) (fun _ => ?_)⟩
      · refine ⟨.ref p, rfl, .int (1 + r4), rfl, p, 1 + r4, n2, rfl, t2.b, by omega, by omega, by omega, fun r8 H9 t3 a8 b8 => ⟨rfl, ?_⟩⟩
        exact rest _ _ ⟨_, _, rfl, t2.trans t3, by omega, t3.lst eD2⟩
      · exact ⟨.int (0 + i), rfl, _, 2, rfl, rfl, (show (2 : Int) ≠ 0 by decide), .int sd, rfl, rfl, rest _ _ ⟨_, _, rfl, t2, by omega, eD2⟩⟩
    rintro σ H9 ⟨kp, n3, rfl, t3, hn3, eD3⟩
    -- found.append(..)
    refine ⟨.ref D, rfl, .inl ⟨rfl, _, SqL.of eD3⟩, .ref p, rfl, .int far, rfl, p, far, n3, rfl, t3.b, by omega, by omega, by omega, fun r9 H10 t4 a9 b9 => ⟨(by show 3 ≤ sizeLine; decide), fun l3 hl3 => ?_⟩⟩
    have t5 := (t3.trans t4).new (o := .lst [.int 0, .int r9, .int 99]) hl3
    have eD5 : upd H10 l3 (.lst [.int 0, .int r9, .int 99]) D = some (.lst (ns.map V.int)) := by
      rw [upd_ne (ne_of_none (t4.lst eD3) hl3)]
      exact t4.lst eD3
    have fin : ∀ (ix : Int) (H11 : Hp) (n5 : Nat), 0 ≤ ix → ix < 3 → Sr p n n5 H H11 → n ≤ n5 + 10 + 5 * i → H11 D = some (.lst (ns.map V.int)) → H11 l3 = some (.lst [.int 0, .int r9, .int 99]) →
        ∃ v, atI ([0, r9, 99].map V.int) ix = some (.int v) ∧ (ns.map V.int).length < sizeLine ∧ Sr p n n5 H (upd H11 D (.lst (ns.map V.int ++ [.int v]))) ∧
          upd H11 D (.lst (ns.map V.int ++ [.int v])) D = some (.lst ((ns ++ [v]).map V.int)) ∧ (ns ++ [v]).length = i + 1 ∧ ∀ x ∈ ns ++ [v], 0 ≤ x ∧ x ≤ 99 := by
      intro ix H11 n5 i0 i1 t6 hn5 eD6 el
      obtain ⟨v, ev, mv⟩ := pick (xs := [0, r9, 99]) i0 (show ix < 3 from i1)
      refine ⟨v, ev, by rw [List.length_map]; exact long_ok (by omega), t6.mut nD, by rw [upd_same, List.map_append] <;> rfl, by rw [List.length_append, hl] <;> rfl, fun x hx => ?_⟩
      rcases List.mem_append.mp hx with h | h
      · exact hb x h
      · simp only [List.mem_singleton] at h
        subst h
        simp only [List.mem_cons, List.not_mem_nil, or_false] at mv
        rcases mv with rfl | rfl | rfl <;> omega
    cases kp with
    | false =>
      refine ⟨.bl false, rfl, .inr ⟨false, rfl, .bl false, rfl, false, rfl, .inr ⟨false, rfl, 0, 0, rfl, rfl, ?_⟩⟩⟩
      obtain ⟨v, ev, lv, t6, eD6, hl6, hb6⟩ := fin 0 _ n3.pred (by decide) (by decide) (by simpa using t5) (by have : n3.pred = n3 - 1 := rfl; omega) eD5 upd_same
      exact ⟨l3, _, 0, .int v, rfl, rfl, SqL.of upd_same, ev, D, _, _, rfl, rfl, eD5, lv, _, _, _, _, _, rfl, t6, by have : n3.pred = n3 - 1 := rfl; omega, eD6, hl6, hb6⟩
    | true =>
      refine ⟨.bl true, rfl, .inr ⟨true, rfl, .bl true, rfl, true, rfl, .ref p, rfl, p, 40, n3 - 1, rfl, t5.b, by omega, by decide, by decide, fun r10 H11 t6 a10 b10 => ⟨rfl, .inr ⟨_, rfl, 1, _, rfl, rfl, ?_⟩⟩⟩⟩
      have eD6 := t6.lst eD5
      have el6 := t6.lst (show upd H10 l3 (.lst [.int 0, .int r9, .int 99]) l3 = some (.lst [.int 0, .int r9, .int 99]) from upd_same)
      obtain ⟨v, ev, lv, t7, eD7, hl7, hb7⟩ := fin (1 + if decide (V.int r10 = V.int 39) = true then 1 else 0) _ _ (by split <;> decide) (by split <;> decide) (t5.trans t6) (by omega) eD6 el6
      exact ⟨l3, _, _, .int v, rfl, rfl, SqL.of el6, ev, D, _, _, rfl, rfl, eD6, lv, _, _, _, _, _, rfl, t7, by omega, eD7, hl7, hb7⟩
  · rintro σ H7 ⟨sd, v8, v9, ns, n', rfl, t1, hn', eD, hl, hb⟩
    exact ⟨.ref D, rfl, k D H7 n' ns (by omega) t1 nD eD (by omega) (by omega) hb⟩
end
abbrev s_next_stand : Stmt := topS 1
theorem sc_next_stand : FnScope ["stand", "cell", "times"] ["stand", "cell", "times"] (defScope s_next_stand) := ⟨rfl, rfl, rfl, by decide +kernel, rfl, by decide +kernel, by decide +kernel⟩

abbrev s_stands : Stmt := topS 4
theorem sc_stands : FnScope ["counts", "stands", "cell", "times"] ["counts"] (defScope s_stands) := ⟨rfl, rfl, rfl, by decide +kernel, rfl, by decide +kernel, by decide +kernel⟩

abbrev s_fewest_seen : Stmt := topS 3
theorem sc_fewest_seen : FnScope ["counts", "stands"] ["counts"] (defScope s_fewest_seen) := ⟨rfl, rfl, rfl, by decide +kernel, rfl, by decide +kernel, by decide +kernel⟩

/-- a count, up at even cells, down at odd ones -/
def alt (ns : List Int) (i : Nat) : Int := if (i : Int) % 2 = 0 then ns.getD i 0 else -(ns.getD i 0)
def stdL (ns : List Int) : List Int := (List.range (ns.length + 1)).map (pre (alt ns))
theorem alt_bd {ns : List Int} {c : Int} (h : ∀ x ∈ ns, 0 ≤ x ∧ x ≤ c) (c0 : 0 ≤ c) (i : Nat) : -c ≤ alt ns i ∧ alt ns i ≤ c := by
  have q : 0 ≤ ns.getD i 0 ∧ ns.getD i 0 ≤ c := by
    rw [List.getD_eq_getElem?_getD]
    cases e : ns[i]? with
    | none => exact ⟨Int.le_refl _, c0⟩
    | some x => exact h x (List.mem_of_getElem? e)
  unfold alt
  split <;> omega
section
variable {P : Program} {w : World} {K : PySem.W.Frag} {mg : Str → Option Value} {base : Heap}
def sp_next : Sp := fun vs H Q _ => ∃ st c t : Int, vs = [.int st, .int c, .int t] ∧ Q (.int (if c % 2 = 0 then st + t else st - t)) H
theorem ok_next {f : Addr} {fd : FuncData} (o : Own K mg "next_stand" s_next_stand ["stand", "cell", "times"] f fd) (T : Txt mg) : Cal P w K mg base CX0 1 "next_stand" s_next_stand ["stand", "cell", "times"] sp_next := by
  refine ⟨f, fd, o, ?_⟩
  refine Dok.calm o.F sc_next_stand (fun vs H Q E h => ?_) (fun cdv A outer s H vs Q E hr h => ?_)
  · obtain ⟨st, c, t, rfl, _⟩ := h
    rfl
  obtain ⟨st, c, t, rfl, k⟩ := h
  refine ⟨_, (pss_one (ps_ret (pe_ifExp (pt_cmpR op_eq (pe_op op_modN (pv 1) pe_int) pe_int (nomark _)) (pe_op op_add (pv 0) (pv 2)) (pe_op op_sub (pv 0) (pv 2))))), ?_⟩
  refine ⟨.int c, rfl, c, 2, rfl, rfl, (show (2 : Int) ≠ 0 by decide), rfl, _, rfl, ite2 (fun h => ?_) (fun h => ?_)⟩
  · have e : c.fmod 2 = 0 := V.int.inj (of_decide_eq_true h)
    rw [fmod2] at e
    rw [if_pos e] at k
    exact ⟨.int st, rfl, .int t, rfl, st, t, rfl, rfl, k⟩
  · have e : ¬ c % 2 = 0 := fun e => h (decide_eq_true (show V.int (c.fmod 2) = V.int 0 by rw [fmod2, e]))
    rw [if_neg e] at k
    exact ⟨.int st, rfl, .int t, rfl, st, t, rfl, rfl, k⟩
/-- the stands, a new list -/
def sp_stands : Sp := fun vs H Q _ => ∃ (a : Addr) (ns : List Int), vs = [.ref a] ∧ H a = some (.lst (ns.map V.int)) ∧ ns.length ≤ 1000 ∧ ∀ q H', H q = none → Same H H' → H' q = some (.lst ((stdL ns).map V.int)) → Q (.ref q) H'
theorem ok_stands {f : Addr} {fd : FuncData} (o : Own K mg "_stands" s_stands ["counts"] f fd) (T : Txt mg) (C_next_stand : Cal P w K mg base CX0 1 "next_stand" s_next_stand ["stand", "cell", "times"] sp_next) :
    Cal P w K mg base CX0 2 "_stands" s_stands ["counts"] sp_stands := by
  refine ⟨f, fd, o, ?_⟩
  refine Dok.calm o.F sc_stands (fun vs H Q E h => ?_) (fun cdv A outer s H vs Q E hr h => ?_)
  · obtain ⟨a, ns, rfl, _⟩ := h
    rfl
  obtain ⟨a, ns, rfl, ea, hl, k⟩ := h
  refine ⟨_, (pss_cons (ps_set (i := 1) sc_stands.nd rfl (Or.inl rfl) (pe_lst (pa_cons pe_int pa_nil)))
    (pss_cons (ps_for PassesOwn.never rfl (pi_enum (by rfl) T.enumerate (pa_cons (pv 0) pa_nil)) (pg_tup rfl (pgs_cons (pg_name (i := 2) sc_stands.nd rfl (Or.inl rfl)) (pgs_cons (pg_name (i := 3) sc_stands.nd rfl (Or.inl rfl)) pgs_nil))) (pss_one (ps_expr (pe_bm PySem.F.plainAttrs_list PySem.F.slot_list_append PySem.F.type_list_append mt_append (pv 1) (pa_cons (c_call C_next_stand (hr.mono (by omega)) pass0 (pa_cons (pe_ix (k_ixL (K := K) rfl) (pv 1) (pv 2) (fun _ _ => rfl)) (pa_cons (pv 2) (pa_cons (pv 3) pa_nil)))) pa_nil)))))
    (pss_one (ps_ret (pv 1))))), ?_⟩
  refine ⟨(by show 1 ≤ sizeLine; decide), fun D hD => ?_⟩
  refine ⟨.ref a, rfl, a, _, rfl, SqL.of ((same_new hD) _ _ ea), ?_⟩
  refine for_it (walk_enum (xs := ns.map V.int)) (fun i σ H' => ∃ v2 v3 : Option V, σ = [some (.ref a), some (.ref D), v2, v3] ∧ Same H H' ∧ H' D = some (.lst (((List.range (i + 1)).map (pre (alt ns))).map V.int))) ⟨none, none, rfl, same_new hD, upd_same⟩ (fun i σ H' _ ⟨_, _, _, s, _⟩ => SqL.of (s _ _ ea)) ?_ ?_
  · rintro i x σ H1 H1' hi ⟨v2, v3, rfl, s1, eD⟩ ⟨t, y1, y2, rfl, nt, rfl, e1, e2⟩
    rw [List.length_map] at hi
    cases (Option.some.inj e1 : V.int (i : Nat) = y1)
    obtain ⟨c, ec, rfl⟩ := ints_at e2
    have s2 := same_new (o := .tup [.int (i : Nat), .int c]) nt
    refine ⟨t, _, rfl, SqT.of upd_same, rfl, _, _, rfl, _, [], rfl, rfl, ?_⟩
    have eD2 := s2 _ _ eD
    have eA : atI (((List.range (i + 1)).map (pre (alt ns))).map V.int) (i : Int) = some (.int (pre (alt ns) i)) := by
      refine atI_nat ?_
      rw [List.getElem?_map, List.getElem?_map, List.getElem?_range (Nat.lt_succ_self i)] <;> rfl
    refine ⟨.ref D, rfl, .inl ⟨rfl, _, SqL.of eD2⟩, .ref D, rfl, .int (i : Nat), rfl, D, _, _, _, rfl, rfl, SqL.of eD2, eA, .int (i : Nat), rfl, .int c, rfl, _, _, _, rfl, D, _, _, rfl, rfl, eD2, ?_, _, _, rfl, same_mut (s1.trans s2) hD, ?_⟩
    · rw [List.length_map, List.length_map, List.length_range]
      exact long_ok (by omega)
    · rw [upd_same, List.range_succ (n := i + 1), List.map_append, List.map_append]
      have e : (if (i : Int) % 2 = 0 then pre (alt ns) i + c else pre (alt ns) i - c) = pre (alt ns) (i + 1) := by
        rw [pre_succ]
        unfold alt
        rw [List.getD_eq_getElem?_getD, ec]
        split <;> simp <;> omega
      rw [e]
      rfl
  · rintro σ H1 ⟨v2, v3, rfl, s1, eD⟩
    rw [List.length_map] at eD
    exact ⟨.ref D, rfl, k D H1 hD s1 eD⟩
/-- how far the stands lie apart -/
def sp_seen : Sp := fun vs H Q _ => ∃ (a : Addr) (ns : List Int), vs = [.ref a] ∧ H a = some (.lst (ns.map V.int)) ∧ ns.length ≤ 1000 ∧ ∀ H' mx mn, Same H H' → IsMax (stdL ns) mx → IsMin (stdL ns) mn → Q (.int (mx - mn)) H'
theorem stdL_len (ns : List Int) : (stdL ns).length = ns.length + 1 := by
  unfold stdL
  rw [List.length_map, List.length_range]
theorem ok_seen {f : Addr} {fd : FuncData} (o : Own K mg "fewest_seen" s_fewest_seen ["counts"] f fd) (T : Txt mg) (C_stands : Cal P w K mg base CX0 2 "_stands" s_stands ["counts"] sp_stands) :
    Cal P w K mg base CX0 3 "fewest_seen" s_fewest_seen ["counts"] sp_seen := by
  refine ⟨f, fd, o, ?_⟩
  refine Dok.calm o.F sc_fewest_seen (fun vs H Q E h => ?_) (fun cdv A outer s H vs Q E hr h => ?_)
  · obtain ⟨a, ns, rfl, _⟩ := h
    rfl
  obtain ⟨a, ns, rfl, ea, hl, k⟩ := h
  refine ⟨_, (pss_cons (ps_set (i := 1) sc_fewest_seen.nd rfl (Or.inl rfl) (c_call C_stands (hr.mono (by omega)) pass0 (pa_cons (pv 0) pa_nil)))
    (pss_one (ps_ret (pe_op op_sub (pe_callB (kc_max (K := K) rfl rfl) (by rfl) T.max (by decide +kernel) (pa_cons (pv 1) pa_nil)) (pe_callB (kc_min (K := K) rfl rfl) (by rfl) T.min (by decide +kernel) (pa_cons (pv 1) pa_nil)))))), ?_⟩
  refine ⟨.ref a, rfl, a, ns, rfl, ea, hl, fun q H1 nq s1 eq => ?_⟩
  have lq := stdL_len ns
  refine ⟨.ref q, rfl, q, _, rfl, SqL.of eq, by omega, fun mx h1 h2 => ?_⟩
  refine ⟨.ref q, rfl, q, _, rfl, SqL.of eq, by omega, fun mn h3 h4 => ⟨mx, mn, rfl, rfl, ?_⟩⟩
  exact k H1 mx mn s1 ⟨h1, h2⟩ ⟨h3, h4⟩
end
/-- what stretches show -/
def Spr (ns : List Int) : Int → Prop := fun v => v = 0 ∨ ∃ i j, i < j ∧ j ≤ ns.length ∧ (v = pre (alt ns) j - pre (alt ns) i ∨ v = pre (alt ns) i - pre (alt ns) j)
theorem spr_top {ns : List Int} {mx mn : Int} (h : IsMax (stdL ns) mx) (g : IsMin (stdL ns) mn) : Top (Spr ns) (mx - mn) := by
  have at_ : ∀ i, i ≤ ns.length → pre (alt ns) i ∈ stdL ns := fun i hi => List.mem_map.mpr ⟨i, List.mem_range.mpr (by omega), rfl⟩
  obtain ⟨a, ha, rfl⟩ := List.mem_map.mp h.mem
  obtain ⟨b, hb, rfl⟩ := List.mem_map.mp g.mem
  have ha := List.mem_range.mp ha
  have hb := List.mem_range.mp hb
  constructor
  · rcases Nat.lt_trichotomy a b with c | c | c
    · exact .inr ⟨a, b, c, by omega, .inr rfl⟩
    · subst c
      exact .inl (by omega)
    · exact .inr ⟨b, a, c, by omega, .inl rfl⟩
  · rintro v (rfl | ⟨i, j, hij, hj, e⟩)
    · have := h.le _ g.mem
      omega
    · have h1 := h.le _ (at_ i (by omega))
      have h2 := h.le _ (at_ j hj)
      have h3 := g.le _ (at_ i (by omega))
      have h4 := g.le _ (at_ j hj)
      rcases e with rfl | rfl <;> omega
theorem spr_bd {ns : List Int} {b : Int} (h : ∀ x ∈ ns, 0 ≤ x ∧ x ≤ 99) (hl : ns.length ≤ 1000) (t : Top (Spr ns) b) : 0 ≤ b ∧ b ≤ 1000000 := by
  have bd : ∀ i, i ≤ ns.length → -99000 ≤ pre (alt ns) i ∧ pre (alt ns) i ≤ 99000 := fun i hi => by
    have := pre_bd (f := alt ns) (c := 99) (n := i) fun j _ => alt_bd h (by decide) j
    omega
  refine ⟨t.le 0 (.inl rfl), ?_⟩
  rcases t.mem with e | ⟨i, j, hij, hj, e⟩
  · omega
  · have := bd i (by omega)
    have := bd j hj
    omega
abbrev s_law_fewest : Stmt := topS 9
theorem sc_law_fewest : FnScope ["tally", "best", "parity", "here", "cell", "count"] ["tally"] (defScope s_law_fewest) := ⟨rfl, rfl, rfl, by decide +kernel, rfl, by decide +kernel, by decide +kernel⟩

section
variable {P : Program} {w : World} {K : PySem.W.Frag} {mg : Str → Option Value} {base : Heap}
def sp_lfew : Sp := fun vs H Q _ => ∃ (a : Addr) (ns : List Int), vs = [.ref a] ∧ H a = some (.lst (ns.map V.int)) ∧ ns.length ≤ 1000 ∧ ∀ H' b, Same H H' → Top (Spr ns) b → Q (.int b) H'
def side (ns : List Int) (q : Nat) : Nat → Int := fun i => if q = 0 then alt ns i else -alt ns i
def Got (ns : List Int) (q : Nat) : Int → Prop := fun v => v = 0 ∨ ∃ p i j, p < q ∧ i < j ∧ j ≤ ns.length ∧ v = pre (side ns p) j - pre (side ns p) i
theorem got_succ (ns : List Int) (q : Nat) (v : Int) : Kb (Got ns q) (side ns q) ns.length v ↔ Got ns (q + 1) v := by
  constructor
  · rintro ((h | ⟨p, i, j, a, b, c, d⟩) | ⟨i, j, b, c, d⟩)
    · exact .inl h
    · exact .inr ⟨p, i, j, Nat.lt_succ_of_lt a, b, c, d⟩
    · exact .inr ⟨q, i, j, Nat.lt_succ_self q, b, c, d⟩
  · rintro (h | ⟨p, i, j, a, b, c, d⟩)
    · exact .inl (.inl h)
    · rcases Nat.lt_or_ge p q with e | e
      · exact .inl (.inr ⟨p, i, j, e, b, c, d⟩)
      · have e2 : p = q := by omega
        subst e2
        exact .inr ⟨i, j, b, c, d⟩
theorem got_spr (ns : List Int) (v : Int) : Got ns 2 v ↔ Spr ns v := by
  have e0 : ∀ n, pre (side ns 0) n = pre (alt ns) n := fun n => pre_congr fun i _ => if_pos rfl
  have e1 : ∀ n, pre (side ns 1) n = -pre (alt ns) n := fun n => (pre_congr fun i _ => if_neg (by decide)).trans (pre_neg (alt ns) n)
  constructor
  · rintro (h | ⟨p, i, j, a, b, c, d⟩)
    · exact .inl h
    · refine .inr ⟨i, j, b, c, ?_⟩
      have : p = 0 ∨ p = 1 := by omega
      rcases this with rfl | rfl
      · rw [e0, e0] at d
        exact .inl d
      · rw [e1, e1] at d
        exact .inr (by omega)
  · rintro (h | ⟨i, j, b, c, d | d⟩)
    · exact .inl h
    · exact .inr ⟨0, i, j, by decide, b, c, by rw [e0, e0]; exact d⟩
    · exact .inr ⟨1, i, j, by decide, b, c, by rw [e1, e1]; omega⟩
theorem ok_lfew {f : Addr} {fd : FuncData} (o : Own K mg "_law_fewest" s_law_fewest ["tally"] f fd) (T : Txt mg) : Cal P w K mg base CX0 1 "_law_fewest" s_law_fewest ["tally"] sp_lfew := by
  refine ⟨f, fd, o, ?_⟩
  refine Dok.calm o.F sc_law_fewest (fun vs H Q E h => ?_) (fun cdv A outer s H vs Q E hr h => ?_)
  · obtain ⟨a, ns, rfl, _⟩ := h
    rfl
  obtain ⟨a, ns, rfl, ea, hz, k⟩ := h
  refine ⟨_, (pss_cons (ps_set (i := 1) sc_law_fewest.nd rfl (Or.inl rfl) pe_int)
    (pss_cons (ps_for PassesOwn.never rfl (pi_range1 rfl T.range (pa_cons pe_int pa_nil)) (pg_name (i := 2) sc_law_fewest.nd rfl (Or.inl rfl)) (pss_cons (ps_set (i := 3) sc_law_fewest.nd rfl (Or.inl rfl) pe_int)
    (pss_one (ps_for PassesOwn.never rfl (pi_enum (by rfl) T.enumerate (pa_cons (pv 0) pa_nil)) (pg_tup rfl (pgs_cons (pg_name (i := 4) sc_law_fewest.nd rfl (Or.inl rfl)) (pgs_cons (pg_name (i := 5) sc_law_fewest.nd rfl (Or.inl rfl)) pgs_nil))) (pss_cons (ps_set (i := 3) sc_law_fewest.nd rfl (Or.inl rfl) (pe_callB (call_max2 rfl) (by rfl) T.max (by decide +kernel) (pa_cons pe_int (pa_cons (pe_op op_add (pv 3) (pe_ifExp (pt_cmpR op_eq (pe_op op_modN (pv 4) pe_int) (pv 2) (nomark _)) (pv 5) (pe_op op_sub pe_int (pv 5)))) pa_nil))))
    (pss_one (ps_set (i := 1) sc_law_fewest.nd rfl (Or.inl rfl) (pe_callB (call_max2 rfl) (by rfl) T.max (by decide +kernel) (pa_cons (pv 1) (pa_cons (pv 3) pa_nil))))))))))
    (pss_one (ps_ret (pv 1))))), ?_⟩
  refine ⟨2, rfl, by decide, by decide, ?_⟩
  refine for_it walk_range (fun q σ H' => ∃ (b : Int) (v2 v3 v4 v5 : Option V), σ = [some (.ref a), some (.int b), v2, v3, v4, v5] ∧ Same H H' ∧ Top (Got ns q) b) ⟨0, none, none, none, none, rfl, Same.refl H, top_zero.congr fun v => ⟨.inl, fun h => by
    rcases h with h | ⟨p, _, _, h, _⟩
    · exact h
    · omega⟩⟩ (fun _ _ _ _ _ => True.intro) ?_ ?_
  · rintro q x σ H1 H1' hq ⟨b, v2, v3, v4, v5, rfl, s1, tb⟩ ⟨rfl, rfl⟩
    refine ⟨.ref a, rfl, a, _, rfl, SqL.of (s1 _ _ ea), ?_⟩
    refine for_it (walk_enum (xs := ns.map V.int)) (fun i σ H' => ∃ (b h : Int) (v4 v5 : Option V), σ = [some (.ref a), some (.int b), some (.int (0 + q)), some (.int h), v4, v5] ∧ Same H H' ∧ Kd (side ns q) i h ∧ Top (Kb (Got ns q) (side ns q) i) b) ⟨b, 0, v4, v5, rfl, s1, kd_zero _, tb.congr fun v => (kb_zero _ _ v).symm⟩ (fun i σ H' _ ⟨_, _, _, _, _, s, _⟩ => SqL.of (s _ _ ea)) ?_ ?_
    · rintro i y σ H2 H2' hi ⟨b, h, v4, v5, rfl, s2, kh, tb⟩ ⟨t, y1, y2, rfl, nt, rfl, e1, e2⟩
      cases (Option.some.inj e1 : V.int (i : Nat) = y1)
      obtain ⟨c, ec, rfl⟩ := ints_at e2
      have s3 := same_new (o := .tup [.int (i : Nat), .int c]) nt
      refine ⟨t, _, rfl, SqT.of upd_same, rfl, _, _, rfl, _, [], rfl, rfl, ?_⟩
      have ed : ns.getD i 0 = c := by
        rw [List.getD_eq_getElem?_getD, ec]
        rfl
      have fin : ∀ z : Int, z = side ns q i → Kd (side ns q) (i + 1) (if h + z > 0 then h + z else 0) ∧ Top (Kb (Got ns q) (side ns q) (i + 1)) (if (if h + z > 0 then h + z else 0) > b then (if h + z > 0 then h + z else 0) else b) := by
        rintro z rfl
        exact ⟨kd_step kh, kb_step (.inl rfl) (kd_step kh) tb⟩
      have q2 : q = 0 ∨ q = 1 := by
        have : q < 2 := hq
        omega
      refine ⟨.int h, rfl, .int (i : Nat), rfl, _, 2, rfl, rfl, (show (2 : Int) ≠ 0 by decide), .int (0 + q), rfl, rfl, _, rfl, ite2 (fun g => ?_) (fun g => ?_)⟩
      · have e : ((i : Nat) : Int).fmod 2 = 0 + q := V.int.inj (of_decide_eq_true g)
        rw [fmod2] at e
        obtain ⟨f1, f2⟩ := fin c (by
          unfold side alt
          rw [ed]
          rcases q2 with rfl | rfl
          · rw [if_pos rfl, if_pos (by omega)]
          · rw [if_neg (by decide), if_neg (by omega)]
            omega)
        exact ⟨.int c, rfl, h, c, rfl, rfl, 0, h + c, rfl, .int b, rfl, .int _, rfl, b, _, rfl, _, _, _, _, rfl, s2.trans s3, f1, f2⟩
      · have e : ¬ ((i : Nat) : Int) % 2 = 0 + q := fun e => g (decide_eq_true (show V.int (((i : Nat) : Int).fmod 2) = V.int (0 + q) by rw [fmod2, e]))
        obtain ⟨f1, f2⟩ := fin (0 - c) (by
          unfold side alt
          rw [ed]
          rcases q2 with rfl | rfl
          · rw [if_pos rfl, if_neg (by omega)]
            omega
          · rw [if_neg (by decide), if_pos (by omega)]
            omega)
        exact ⟨.int c, rfl, 0, c, rfl, rfl, h, 0 - c, rfl, rfl, 0, h + (0 - c), rfl, .int b, rfl, .int _, rfl, b, _, rfl, _, _, _, _, rfl, s2.trans s3, f1, f2⟩
    · rintro σ H2 ⟨b, h, v4, v5, rfl, s2, kh, tb⟩
      rw [List.length_map] at tb
      exact ⟨b, _, _, _, _, rfl, s2, tb.congr (got_succ ns q)⟩
  · rintro σ H1 ⟨b, v2, v3, v4, v5, rfl, s1, tb⟩
    exact ⟨.int b, rfl, k H1 b s1 (tb.congr (got_spr ns))⟩
end
abbrev s_law_stretches : Stmt := topS 10
theorem sc_law_stretches : FnScope ["tally", "best", "first", "total", "last"] ["tally"] (defScope s_law_stretches) := ⟨rfl, rfl, rfl, by decide +kernel, rfl, by decide +kernel, by decide +kernel⟩

abbrev s_law_right : Stmt := topS 11
theorem sc_law_right : FnScope ["tally", "kept", "due"] ["tally"] (defScope s_law_right) := ⟨rfl, rfl, rfl, by decide +kernel, rfl, by decide +kernel, by decide +kernel⟩

abbrev s_law : Stmt := topS 12
theorem sc_law : FnScope ["script", "k", "till", "most", "tally", "great"] ["script"] (defScope s_law) := ⟨rfl, rfl, rfl, by decide +kernel, rfl, by decide +kernel, by decide +kernel⟩

def KW_fewest_seen_0_counts {α : Type} : List α → List α → List α
  | [], [b0] => [b0]
  | _, _ => []
theorem KW_fewest_seen_0_counts_b (kV doc pm : Value) (an : Option Addr) (cdv ct : Value) (us ws : List Value) (hl : (KW_fewest_seen_0_counts us ws).length = (["counts"] : List Str).length) :
    bindArgs (PySem.W.fnOf "fewest_seen" "fewest_seen" (defArgs s_fewest_seen) (defBody s_fewest_seen) (defScope s_fewest_seen) .none kV doc pm an cdv ct) ⟨us, (["counts"] : List Str).zip ws⟩ = pure ((["counts"] : List Str).zip (KW_fewest_seen_0_counts us ws)) := by
  unfold KW_fewest_seen_0_counts at hl ⊢
  split at hl
  · rfl
  · cases hl
theorem KW_fewest_seen_0_counts_r : ∀ {vs : List V} {us : List Value} {zs : List V} {ws : List Value}, Vals vs us → Vals zs ws → Vals (KW_fewest_seen_0_counts vs zs) (KW_fewest_seen_0_counts us ws)
  | _, _, _, _, .nil, .nil => .nil
  | _, _, _, _, .nil, (.cons q0 .nil) => (.cons q0 .nil)
  | _, _, _, _, .nil, (.cons _ (.cons _ _)) => .nil
  | _, _, _, _, (.cons _ _), .nil => .nil
  | _, _, _, _, (.cons _ _), (.cons q0 .nil) => .nil
  | _, _, _, _, (.cons _ _), (.cons _ (.cons _ _)) => .nil

section
variable {P : Program} {w : World} {K : PySem.W.Frag} {mg : Str → Option Value} {base : Heap}
def OutS (ns : List Int) (k : Nat) : Int → Prop := fun v => v = 0 ∨ ∃ i j, i < k ∧ i < j ∧ j ≤ ns.length ∧ (v = pre (alt ns) j - pre (alt ns) i ∨ v = pre (alt ns) i - pre (alt ns) j)
def InS (ns : List Int) (k m : Nat) : Int → Prop := fun v => OutS ns k v ∨ ∃ j, k < j ∧ j ≤ k + m ∧ (v = pre (alt ns) j - pre (alt ns) k ∨ v = pre (alt ns) k - pre (alt ns) j)
theorem ok_stretches {f : Addr} {fd : FuncData} (o : Own K mg "_law_stretches" s_law_stretches ["tally"] f fd) (T : Txt mg) : Cal P w K mg base CX0 1 "_law_stretches" s_law_stretches ["tally"] sp_lfew := by
  refine ⟨f, fd, o, ?_⟩
  refine Dok.calm o.F sc_law_stretches (fun vs H Q E h => ?_) (fun cdv A outer s H vs Q E hr h => ?_)
  · obtain ⟨a, ns, rfl, _⟩ := h
    rfl
  obtain ⟨a, ns, rfl, ea, hz, k⟩ := h
  refine ⟨_, (pss_cons (ps_set (i := 1) sc_law_stretches.nd rfl (Or.inl rfl) pe_int)
    (pss_cons (ps_for PassesOwn.never rfl (pi_range1 rfl T.range (pa_cons (pe_callB (kc_len (K := K) rfl) (by rfl) T.len (by decide +kernel) (pa_cons (pv 0) pa_nil)) pa_nil)) (pg_name (i := 2) sc_law_stretches.nd rfl (Or.inl rfl)) (pss_cons (ps_set (i := 3) sc_law_stretches.nd rfl (Or.inl rfl) pe_int)
    (pss_one (ps_for PassesOwn.never rfl (pi_range2 rfl T.range (pa_cons (pv 2) (pa_cons (pe_callB (kc_len (K := K) rfl) (by rfl) T.len (by decide +kernel) (pa_cons (pv 0) pa_nil)) pa_nil))) (pg_name (i := 4) sc_law_stretches.nd rfl (Or.inl rfl)) (pss_cons (ps_set (i := 3) sc_law_stretches.nd rfl (Or.inl rfl) (pe_op op_add (pv 3) (pe_ifExp (pt_cmpR op_eq (pe_op op_modN (pv 4) pe_int) pe_int (nomark _)) (pe_ix (k_ixL (K := K) rfl) (pv 0) (pv 4) (fun _ _ => rfl)) (pe_op op_sub pe_int (pe_ix (k_ixL (K := K) rfl) (pv 0) (pv 4) (fun _ _ => rfl))))))
    (pss_one (ps_set (i := 1) sc_law_stretches.nd rfl (Or.inl rfl) (pe_callB (kc_max3 rfl) (by rfl) T.max (by decide +kernel) (pa_cons (pv 1) (pa_cons (pv 3) (pa_cons (pe_op op_sub pe_int (pv 3)) pa_nil)))))))))))
    (pss_one (ps_ret (pv 1))))), ?_⟩
  refine ⟨.ref a, rfl, a, _, rfl, .inl (SqL.of ea), _, rfl, by omega, by rw [List.length_map]; omega, ?_⟩
  refine for_it walk_range (fun i σ H' => ∃ (b : Int) (v2 v3 v4 : Option V), σ = [some (.ref a), some (.int b), v2, v3, v4] ∧ H' = H ∧ Top (OutS ns i) b) ⟨0, none, none, none, rfl, rfl, top_zero.congr fun v => ⟨.inl, fun h => by
    rcases h with h | ⟨i, _, h, _⟩
    · exact h
    · omega⟩⟩ (fun _ _ _ _ _ => True.intro) ?_ ?_
  · rintro i x σ H1 H1' hi ⟨b, v2, v3, v4, rfl, rfl, tb⟩ ⟨rfl, rfl⟩
    have hi' : i < ns.length := by simpa using hi
    refine ⟨.int (0 + i), rfl, .ref a, rfl, a, _, rfl, .inl (SqL.of ea), 0 + i, _, rfl, ⟨by omega, by omega, by omega, by rw [List.length_map]; omega⟩, ?_⟩
    refine for_it walk_range (fun m σ H' => ∃ (b t : Int) (v4 : Option V), σ = [some (.ref a), some (.int b), some (.int (0 + i)), some (.int t), v4] ∧ t = pre (alt ns) (i + m) - pre (alt ns) i ∧ H' = H1' ∧ Top (InS ns i m) b) ⟨b, 0, v4, rfl, by rw [Nat.add_zero, Int.sub_self], rfl, tb.congr fun v => ⟨.inl, fun h => by
      rcases h with h | ⟨j, a1, a2, _⟩
      · exact h
      · omega⟩⟩ (fun _ _ _ _ _ => True.intro) ?_ ?_
    · rintro m y σ H2 H2' hm ⟨b, t, v4, rfl, et0, rfl, tb⟩ ⟨rfl, rfl⟩
      have hm' : i + m < ns.length := by
        rw [List.length_map] at hm
        omega
      have ei : (0 : Int) + i + m = ((i + m : Nat) : Int) := by omega
      have ed : atI (ns.map V.int) (0 + i + m) = some (.int (ns.getD (i + m) 0)) := atI_get ei hm'
      have e2 : ∀ z : Int, z = alt ns (i + m) → t + z = pre (alt ns) (i + (m + 1)) - pre (alt ns) i := by
        rintro z rfl
        have : pre (alt ns) (i + (m + 1)) = pre (alt ns) (i + m) + alt ns (i + m) := pre_succ _ _
        omega
      have fin : ∀ t : Int, t = pre (alt ns) (i + (m + 1)) - pre (alt ns) i → Top (InS ns i (m + 1)) (if 0 - t > (if t > b then t else b) then 0 - t else (if t > b then t else b)) := by
        rintro t rfl
        refine (tb.or (c := pre (alt ns) (i + (m + 1)) - pre (alt ns) i) (T := fun v => InS ns i m v ∨ v = pre (alt ns) (i + (m + 1)) - pre (alt ns) i) fun v => Iff.rfl).or fun v => ?_
        constructor
        · rintro (h | ⟨j, a1, a2, a3⟩)
          · exact .inl (.inl (.inl h))
          · rcases Nat.lt_or_ge (i + m) j with c | c
            · have e : j = i + (m + 1) := by omega
              subst e
              rcases a3 with a3 | a3
              · exact .inl (.inr a3)
              · exact .inr (by omega)
            · exact .inl (.inl (.inr ⟨j, a1, c, a3⟩))
        · rintro ((h | h) | h)
          · rcases h with h | ⟨j, a1, a2, a3⟩
            · exact .inl h
            · exact .inr ⟨j, a1, by omega, a3⟩
          · exact .inr ⟨i + (m + 1), by omega, by omega, .inl h⟩
          · exact .inr ⟨i + (m + 1), by omega, by omega, .inr (by omega)⟩
      refine ⟨.int _, rfl, .int (0 + i + m), rfl, _, 2, rfl, rfl, (show (2 : Int) ≠ 0 by decide), rfl, _, rfl, ite2 (fun g => ?_) (fun g => ?_)⟩
      · have e : ((0 : Int) + i + m).fmod 2 = 0 := V.int.inj (of_decide_eq_true g)
        rw [fmod2, ei] at e
        have et := e2 (ns.getD (i + m) 0) (by unfold alt; rw [if_pos e])
        have ft := fin _ et
        refine ⟨.ref a, rfl, .int (0 + i + m), rfl, a, _, _, _, rfl, rfl, SqL.of ea, ed, _, _, rfl, rfl, ?_⟩
        exact ⟨.int b, rfl, .int _, rfl, .int _, rfl, 0, _, rfl, rfl, _, _, _, rfl, _, _, _, rfl, et, rfl, ft⟩
      · have e : ¬ ((i + m : Nat) : Int) % 2 = 0 := fun e => g (decide_eq_true (show V.int (((0 : Int) + i + m).fmod 2) = V.int 0 by rw [fmod2, ei, e]))
        have et := e2 (0 - ns.getD (i + m) 0) (by unfold alt; rw [if_neg e]; omega)
        have ft := fin _ et
        refine ⟨.ref a, rfl, .int (0 + i + m), rfl, a, _, _, _, rfl, rfl, SqL.of ea, ed, 0, _, rfl, rfl, _, _, rfl, rfl, ?_⟩
        exact ⟨.int b, rfl, .int _, rfl, .int _, rfl, 0, _, rfl, rfl, _, _, _, rfl, _, _, _, rfl, et, rfl, ft⟩
    · rintro σ H2 ⟨b, t, v4, rfl, _, rfl, tb⟩
      refine ⟨b, _, _, _, rfl, rfl, tb.congr fun v => ?_⟩
      have en : i + ((((ns.map V.int).length : Nat) : Int) - (0 + (i : Int))).toNat = ns.length := by
        rw [List.length_map]
        omega
      unfold InS
      rw [en]
      constructor
      · rintro ((h | ⟨i', j, a1, a2, a3, a4⟩) | ⟨j, a1, a2, a3⟩)
        · exact .inl h
        · exact .inr ⟨i', j, by omega, a2, a3, a4⟩
        · exact .inr ⟨i, j, Nat.lt_succ_self i, a1, a2, a3⟩
      · rintro (h | ⟨i', j, a1, a2, a3, a4⟩)
        · exact .inl (.inl h)
        · rcases Nat.lt_or_ge i' i with c | c
          · exact .inl (.inr ⟨i', j, c, a2, a3, a4⟩)
          · have e : i' = i := by omega
            subst e
            exact .inr ⟨j, a2, a3, a4⟩
  · rintro σ H1 ⟨b, v2, v3, v4, rfl, rfl, tb⟩
    refine ⟨.int b, rfl, k _ b (Same.refl _) (tb.congr fun v => ?_)⟩
    have en : ((((ns.map V.int).length : Nat) : Int)).toNat = ns.length := by
      rw [List.length_map]
      omega
    rw [en]
    constructor
    · rintro (h | ⟨i, j, _, a2, a3, a4⟩)
      · exact .inl h
      · exact .inr ⟨i, j, a2, a3, a4⟩
    · rintro (h | ⟨i, j, a2, a3, a4⟩)
      · exact .inl h
      · exact .inr ⟨i, j, by omega, a2, a3, a4⟩
end
section
variable {P : Program} {w : World} {K : PySem.W.Frag} {mg : Str → Option Value} {base : Heap}
theorem small_ok {ns : List Int} (h : ∀ x ∈ ns, 0 ≤ x ∧ x ≤ 1000000) : ∀ z ∈ ns, z.natAbs < 10 ^ 31 := fun z hz => by
  have := h z hz
  have e : (10 : Nat) ^ 31 = 10000000000000000000000000000000 := by decide
  omega
def sp_right : Sp := fun vs H Q _ => ∃ (a : Addr) (ns : List Int), vs = [.ref a] ∧ H a = some (.lst (ns.map V.int)) ∧ ns.length ≤ 1000 ∧ (∀ x ∈ ns, 0 ≤ x ∧ x ≤ 99) ∧ ∀ H', Same H H' → Q (.bl true) H'
theorem ok_right {f : Addr} {fd : FuncData} (o : Own K mg "_law_right" s_law_right ["tally"] f fd) (T : Txt mg) (C_law_stretches : Cal P w K mg base CX0 1 "_law_stretches" s_law_stretches ["tally"] sp_lfew)
    (C_fewest_seen : Cal P w K mg base CX0 3 "fewest_seen" s_fewest_seen ["counts"] sp_seen) : Cal P w K mg base CX0 4 "_law_right" s_law_right ["tally"] sp_right := by
  refine ⟨f, fd, o, ?_⟩
  refine Dok.calm o.F sc_law_right (fun vs H Q E h => ?_) (fun cdv A outer s H vs Q E hr h => ?_)
  · obtain ⟨a, ns, rfl, _⟩ := h
    rfl
  obtain ⟨a, ns, rfl, ea, hz, hb, k⟩ := h
  refine ⟨_, (pss_cons (ps_set (i := 1) sc_law_right.nd rfl (Or.inl rfl) (pe_callB (kc_repr (K := K) rfl hr) (by rfl) T.repr (by decide +kernel) (pa_cons (pv 0) pa_nil)))
    (pss_cons (ps_set (i := 2) sc_law_right.nd rfl (Or.inl rfl) (c_call C_law_stretches (hr.mono (by omega)) pass0 (pa_cons (pv 0) pa_nil)))
    (pss_one (ps_ret (pe_and (pe_cmpR op_eq (pe_callB (kc_repr (K := K) rfl hr) (by rfl) T.repr (by decide +kernel) (pa_cons (pe_lst (pa_cons (c_call C_fewest_seen (hr.mono (by omega)) pass0 (pa_cons (pv 0) pa_nil)) (pa_cons (c_callN (g := @KW_fewest_seen_0_counts Value) (gV := @KW_fewest_seen_0_counts V) C_fewest_seen (hr.mono (by omega)) pass0 (pk_cons (pv 0) pk_nil) KW_fewest_seen_0_counts_b KW_fewest_seen_0_counts_r) pa_nil))) pa_nil)) (pe_callB (kc_repr (K := K) rfl hr) (by rfl) T.repr (by decide +kernel) (pa_cons (pe_lst (pa_cons (pv 2) (pa_cons (pv 2) pa_nil))) pa_nil)) (nomark _)) (pe_one (pe_cmpR op_eq (pe_callB (kc_repr (K := K) rfl hr) (by rfl) T.repr (by decide +kernel) (pa_cons (pv 0) pa_nil)) (pv 1) (nomark _)))))))), ?_⟩
  have RC := repr_ints (small_ok fun x hx => by have := hb x hx; omega) (show ns.length ≤ 200000 by omega)
  refine ⟨.ref a, rfl, a, _, rfl, (dt_intsL ea).dp, RC.1, RC.2.1, RC.2.2, ?_⟩
  refine ⟨.ref a, rfl, a, ns, rfl, ea, hz, fun H1 b s1 tb => ?_⟩
  have ea1 := s1 _ _ ea
  refine ⟨.ref a, rfl, a, ns, rfl, ea1, hz, fun H2 mx mn s2 hM hm => ?_⟩
  have ea2 := s2 _ _ ea1
  refine ⟨.ref a, rfl, a, ns, rfl, ea2, hz, fun H3 mx' mn' s3 hM' hm' => ⟨(by show 2 ≤ sizeLine; decide), fun l hl => ?_⟩⟩
  have e1 : mx - mn = b := (spr_top hM hm).eq tb fun _ => Iff.rfl
  have e2 : mx' - mn' = b := (spr_top hM' hm').eq tb fun _ => Iff.rfl
  have bb := spr_bd hb hz tb
  have R2 := repr_ints (ns := [b, b]) (small_ok fun x hx => by
    have : x = b := by simpa using hx
    omega) (show 2 ≤ 200000 by decide)
  have R1 := R2
  rw [show ([b, b] : List Int) = [mx - mn, mx' - mn'] by rw [e1, e2]] at R1
  have s4 := same_new (o := .lst [.int (mx - mn), .int (mx' - mn')]) hl
  refine ⟨l, _, rfl, (dt_intsL (ns := [mx - mn, mx' - mn']) upd_same).dp, R1.1, R1.2.1, R1.2.2, ?_⟩
  refine ⟨.int b, rfl, .int b, rfl, (by show 2 ≤ sizeLine; decide), fun l2 hl2 => ?_⟩
  have s5 := s4.trans (same_new (o := .lst [.int b, .int b]) hl2)
  refine ⟨l2, _, rfl, (dt_intsL (ns := [b, b]) upd_same).dp, R2.1, R2.2.1, R2.2.2, rfl, true, bl_tt (by rw [e1, e2]), iteT ?_⟩
  have s35 := s3.trans s5
  have ea3 := s35 _ _ ea2
  refine ⟨.ref a, rfl, a, _, rfl, (dt_intsL ea3).dp, RC.1, RC.2.1, RC.2.2, .str _, rfl, rfl, ?_⟩
  exact same_tt rfl (k _ ((s1.trans s2).trans s35))
end
section
variable {P : Program} {w : World} {K : PySem.W.Frag} {mg : Str → Option Value} {base : Heap}
def sp_law (K : PySem.W.Frag) : Sp := fun vs H Q _ => ∃ (a : Addr) (ns : List Int), vs = [.ref a] ∧ SqL K H a (ns.map V.int) ∧ ns.length ≤ 63 ∧ ∀ H', Q (.bl true) H'
theorem ok_law {f : Addr} {fd : FuncData} (o : Own K mg "law" s_law ["script"] f fd) (T : Txt mg) (C_law_till : Cal P w K mg base CX0 1 "_law_till" s_law_till ["script", "k"] (sp_spool K)) (C_law_tip : Cal P w K mg base CX0 1 "_law_tip" s_law_tip ["till", "wide"] sp_pull)
    (C_law_counts : Cal P w K mg base CX0 2 "_law_counts" s_law_counts ["till", "most"] sp_counts) (C_law_fewest : Cal P w K mg base CX0 1 "_law_fewest" s_law_fewest ["tally"] sp_lfew)
    (C_fewest_seen : Cal P w K mg base CX0 3 "fewest_seen" s_fewest_seen ["counts"] sp_seen) (C_law_right : Cal P w K mg base CX0 4 "_law_right" s_law_right ["tally"] sp_right) : Dok P w K mg base CX0 5 f fd ["script"] (sp_law K) := by
  refine Dok.calm o.F sc_law (fun vs H Q E h => ?_) (fun cdv A outer s H vs Q E hr h => ?_)
  · obtain ⟨a, ns, rfl, _⟩ := h
    rfl
  obtain ⟨a, ns, rfl, hS, hl, k⟩ := h
  refine ⟨_, (pss_cons (ps_for PassesOwn.never rfl (pi_range1 rfl T.range (pa_cons (pe_callB (call_max2 rfl) (by rfl) T.max (by decide +kernel) (pa_cons pe_int (pa_cons (pe_callB (call_min2 rfl) (by rfl) T.min (by decide +kernel) (pa_cons pe_int (pa_cons (pe_callB (kc_len (K := K) rfl) (by rfl) T.len (by decide +kernel) (pa_cons (pv 0) pa_nil)) pa_nil))) pa_nil))) pa_nil)) (pg_name (i := 1) sc_law.nd rfl (Or.inl rfl)) (pss_cons (ps_set (i := 2) sc_law.nd rfl (Or.inl rfl) (c_call C_law_till (hr.mono (by omega)) pass0 (pa_cons (pv 0) (pa_cons (pv 1) pa_nil))))
    (pss_one (ps_for PassesOwn.never rfl (pi_list (pe_lst (pa_cons pe_int (pa_cons pe_int (pa_cons pe_int pa_nil))))) (pg_name (i := 3) sc_law.nd rfl (Or.inl rfl)) (pss_cons (ps_set (i := 4) sc_law.nd rfl (Or.inl rfl) (c_call C_law_counts (hr.mono (by omega)) pass0 (pa_cons (pv 2) (pa_cons (pv 3) pa_nil))))
    (pss_cons (ps_if (pt_not (pt_val (c_call C_law_right (hr.mono (by omega)) pass0 (pa_cons (pv 4) pa_nil)))) (pss_one (ps_ret pe_bl)) pss_nil)
    (pss_cons (ps_asg (pe_ix (k_ixL (K := K) rfl) (pe_lst (pa_cons pe_int (pa_cons pe_int (pa_cons pe_int pa_nil)))) (c_call C_law_tip (hr.mono (by omega)) pass0 (pa_cons (pv 2) (pa_cons pe_int pa_nil))) (fun _ _ => rfl)) (pg_sub (pv 4) (c_call C_law_tip (hr.mono (by omega)) pass0 (pa_cons (pv 2) (pa_cons (pe_callB (kc_len (K := K) rfl) (by rfl) T.len (by decide +kernel) (pa_cons (pv 4) pa_nil)) pa_nil))) set_list))
    (pss_cons (ps_if (pt_not (pt_val (c_call C_law_right (hr.mono (by omega)) pass0 (pa_cons (pv 4) pa_nil)))) (pss_one (ps_ret pe_bl)) pss_nil)
    (pss_cons (ps_expr (pe_bm PySem.F.plainAttrs_list PySem.F.slot_list_append PySem.F.type_list_append mt_append (pv 4) (pa_cons (c_call C_law_tip (hr.mono (by omega)) pass0 (pa_cons (pv 2) (pa_cons pe_int pa_nil))) pa_nil)))
    (pss_one (ps_if (PW.pt (pw_or (pt_not (pt_val (c_call C_law_right (hr.mono (by omega)) pass0 (pa_cons (pe_slice (k_slL (K := K) rfl) (pv 4) po_none (po_some pe_int)) pa_nil)))) (pw_or1 (pt_cmpR op_ne (c_call C_fewest_seen (hr.mono (by omega)) pass0 (pa_cons (pe_slice (k_slL (K := K) rfl) (pv 4) po_none (po_some pe_int)) pa_nil)) (c_call C_law_fewest (hr.mono (by omega)) pass0 (pa_cons (pe_slice (k_slL (K := K) rfl) (pv 4) po_none (po_some pe_int)) pa_nil)) (nomark _))))) (pss_one (ps_ret pe_bl)) pss_nil)))))))))))
    (pss_cons (ps_set (i := 5) sc_law.nd rfl (Or.inl rfl) (pe_op op_rep (pe_lst (pa_cons pe_int pa_nil)) pe_int))
    (pss_one (ps_ret (pe_and (pe_cmpR op_eq (c_call C_fewest_seen (hr.mono (by omega)) pass0 (pa_cons (pv 5) pa_nil)) pe_int (nomark _)) (pe_and (pe_cmpR op_eq (c_call C_fewest_seen (hr.mono (by omega)) pass0 (pa_cons (pe_op op_rep (pe_lst (pa_cons pe_int (pa_cons pe_int pa_nil))) pe_int) pa_nil)) pe_int (nomark _)) (pe_one (pe_cmpR op_eq (c_call C_fewest_seen (hr.mono (by omega)) pass0 (pa_cons (pe_lst (pa_cons pe_int pa_nil)) pa_nil)) pe_int (nomark _))))))))), ?_⟩
  refine ⟨.ref a, rfl, a, _, rfl, .inl hS, _, _, rfl, _, _, rfl, _, rfl, ?_, ?_, ?_⟩
  · split <;> split <;> omega
  · rw [List.length_map]
    split <;> split <;> omega
  have top : ∀ {x : Int}, x = (if (if ((ns.map V.int).length : Int) < 4 then ((ns.map V.int).length : Int) else 4) > 1 then (if ((ns.map V.int).length : Int) < 4 then ((ns.map V.int).length : Int) else 4) else 1) → x.toNat ≤ 5 := by
    intro x e
    rw [e]
    split <;> split <;> omega
  refine for_it walk_range (fun i σ H' => ∃ v1 v2 v3 v4 v5 : Option V, σ = [some (.ref a), v1, v2, v3, v4, v5] ∧ Same H H') ⟨none, none, none, none, none, rfl, Same.refl H⟩ (fun _ _ _ _ _ => True.intro) ?_ ?_
  · rintro i x σ H1 H1' hi ⟨v1, v2, v3, v4, v5, rfl, s1⟩ ⟨rfl, rfl⟩
    have hi6 : i < 5 := Nat.lt_of_lt_of_le hi (top rfl)
    refine ⟨.ref a, rfl, .int (0 + i), rfl, a, ns, 0 + i, rfl, s1.seq hS, by omega, by omega, fun p H2 hp s2 e2 => ?_⟩
    have hpH : H p = none := s1.free hp
    have s02 := s1.trans s2
    refine ⟨(by show 3 ≤ sizeLine; decide), fun lm nlm => ?_⟩
    have s03 := s02.trans (same_new (o := .lst [.int 9, .int 9, .int 200]) nlm)
    have e3 : upd H2 lm (.lst [.int 9, .int 9, .int 200]) p = some (rl 1000000 p) := (same_new nlm) _ _ e2
    refine ⟨lm, rfl, ⟨_, SqL.of upd_same⟩, ?_⟩
    refine for_it (walk_list (xs := [9, 9, 200].map V.int)) (fun j σ H' => ∃ (v3 v4 v5 : Option V) (n : Nat), σ = [some (.ref a), some (.int (0 + i)), some (.ref p), v3, v4, v5] ∧ Same H H' ∧ H' lm = some (.lst ([9, 9, 200].map V.int)) ∧ H' p = some (rl n p) ∧ 900000 ≤ n + 2100 * j)
      ⟨v3, v4, v5, 1000000, rfl, s03, upd_same, e3, by omega⟩ (fun _ _ _ _ ⟨_, _, _, _, _, _, e, _⟩ => SqL.of e) ?_ ?_
    · rintro j y σ H4 H4' hj ⟨v3, v4, v5, n, rfl, s4, el, ep, hn⟩ ⟨rfl, ey⟩
      obtain ⟨mo, em, rfl⟩ := ints_at ey
      have hj3 : j < 3 := hj
      have mo1 : 1 ≤ mo ∧ mo ≤ 200 := by
        have := List.mem_of_getElem? em
        simp only [List.mem_cons, List.not_mem_nil, or_false] at this
        rcases this with rfl | rfl | rfl <;> omega
      refine ⟨.ref p, rfl, .int mo, rfl, p, mo, n, rfl, ep, by omega, mo1.1, mo1.2, fun q H5 n5 cs hn5 s5 nq eq l1 l2 hb => ?_⟩
      have nlp : lm ≠ p := fun z => by
        rw [z, ep] at el
        exact rl_ne_lst (Option.some.inj el)
      -- all that stands, from here on
      have keep0 : ∀ {H'' : Hp} {n'' : Nat}, Sr p n n'' H4' H'' → Same H H'' ∧ H'' lm = some (.lst ([9, 9, 200].map V.int)) ∧ H'' p = some (rl n'' p) := fun r => ⟨same_old s4 r hpH, r.lst el, r.b⟩
      refine ⟨.ref q, rfl, q, cs, rfl, eq, by omega, hb, fun H6 s6 => ⟨true, rfl, iteF ?_⟩⟩
      have r6 := s5.then s6
      have eq6 := s6 _ _ eq
      -- tally[_law_tip(till, len(tally))] = [0, 1, 99][_law_tip(till, 3)]
      refine ⟨(by show 3 ≤ sizeLine; decide), fun l3 nl3 => ?_⟩
      have r7 := r6.new (o := .lst [.int 0, .int 1, .int 99]) nl3
      have eq7 := (same_new (o := .lst [.int 0, .int 1, .int 99]) nl3) _ _ eq6
      refine ⟨.ref p, rfl, p, 3, n5, rfl, r7.b, by omega, by decide, by decide, fun r8 H8 s8 a8 b8 => ?_⟩
      obtain ⟨z, ez, mz⟩ := pick (xs := [0, 1, 99]) a8 (show r8 < 3 from b8)
      have z1 : 0 ≤ z ∧ z ≤ 99 := by
        simp only [List.mem_cons, List.not_mem_nil, or_false] at mz
        rcases mz with rfl | rfl | rfl <;> omega
      refine ⟨l3, _, r8, .int z, rfl, rfl, SqL.of (s8.lst upd_same), ez, ?_⟩
      have r8' := r7.trans s8
      have eq8 := s8.lst eq7
      refine ⟨.ref q, rfl, .ref p, rfl, .ref q, rfl, q, _, rfl, .inl (SqL.of eq8), p, _, n5 - 1, rfl, r8'.b, by omega, by rw [List.length_map]; omega, by rw [List.length_map]; omega, fun r9 H9 s9 a9 b9 => ?_⟩
      rw [List.length_map] at b9
      obtain ⟨jx, rfl⟩ := Int.eq_ofNat_of_zero_le a9
      have eq9 := s9.lst eq8
      have nqH4 : H4' q = none := nq
      refine ⟨q, _, _, jx, rfl, rfl, eq9, ixn (by rw [List.length_map]; omega), ?_⟩
      have r9 := (r8'.trans s9).mut (o := .lst ((cs.map V.int).set jx (.int z))) nqH4
      have eq10 : upd H9 q (.lst ((cs.map V.int).set jx (.int z))) q = some (.lst ((cs.set jx z).map V.int)) := by
        rw [upd_same, List.map_set]
      have hb10 : ∀ x ∈ cs.set jx z, 0 ≤ x ∧ x ≤ 99 := fun x hx => by
        rcases List.mem_or_eq_of_mem_set hx with h | h
        · exact hb x h
        · rw [h]
          exact z1
      have l10 : (cs.set jx z).length = cs.length := List.length_set
      generalize cs.set jx z = ds at eq10 hb10 l10
      generalize upd H9 q (.lst ((cs.map V.int).set jx (.int z))) = H10 at r9 eq10
      refine ⟨.ref q, rfl, q, ds, rfl, eq10, by omega, hb10, fun H11 s11 => ⟨true, rfl, iteF ?_⟩⟩
      have r11 := r9.then s11
      have eq11 := s11 _ _ eq10
      -- tally.append(_law_tip(till, 100))
      refine ⟨.ref q, rfl, .inl ⟨rfl, _, SqL.of eq11⟩, .ref p, rfl, p, 100, n5 - 1 - 1, rfl, r11.b, by omega, by decide, by decide, fun r12 H12 s12 a12 b12 => ?_⟩
      have eq12 := s12.lst eq11
      refine ⟨q, _, _, rfl, rfl, eq12, by rw [List.length_map]; exact long_ok (by omega), ?_⟩
      have r12' := (r11.trans s12).mut (o := .lst (ds.map V.int ++ [.int r12])) nqH4
      have eq13 : upd H12 q (.lst (ds.map V.int ++ [.int r12])) q = some (.lst ((ds ++ [r12]).map V.int)) := by
        rw [upd_same, List.map_append]
        rfl
      generalize upd H12 q (.lst (ds.map V.int ++ [.int r12])) = H13 at r12' eq13
      have hb13 : ∀ x ∈ (ds ++ [r12]).take 200, 0 ≤ x ∧ x ≤ 99 := fun x hx => by
        rcases List.mem_append.mp (List.mem_of_mem_take hx) with h | h
        · exact hb10 x h
        · simp only [List.mem_singleton] at h
          omega
      have l13 : ((ds ++ [r12]).take 200).length ≤ 200 := by
        rw [List.length_take]
        omega
      have cutE : cutV ((ds ++ [r12]).map V.int) none (some 200) = ((ds ++ [r12]).take 200).map V.int := by
        rw [List.map_take]
        exact cut_to 200
      generalize hes : (ds ++ [r12]).take 200 = es at hb13 l13 cutE
      refine ⟨.ref q, rfl, 200, rfl, q, _, rfl, SqL.of eq13, fun u nu => ?_⟩
      rw [cutE]
      have r14 := r12'.new (o := .lst (es.map V.int)) nu
      have eq14 := (same_new (o := .lst (es.map V.int)) nu) _ _ eq13
      refine ⟨u, es, rfl, upd_same, by omega, hb13, fun H15 s15 => ⟨true, rfl, iteF ?_⟩⟩
      have r15 := r14.then s15
      have eq15 := s15 _ _ eq14
      refine ⟨.ref q, rfl, 200, rfl, q, _, rfl, SqL.of eq15, fun u2 nu2 => ?_⟩
      rw [cutE]
      have r16 := r15.new (o := .lst (es.map V.int)) nu2
      have eq16 := (same_new (o := .lst (es.map V.int)) nu2) _ _ eq15
      refine ⟨u2, es, rfl, upd_same, by omega, fun H17 mx mn s17 hM hm => ?_⟩
      have r17 := r16.then s17
      have eq17 := s17 _ _ eq16
      refine ⟨.ref q, rfl, 200, rfl, q, _, rfl, SqL.of eq17, fun u3 nu3 => ?_⟩
      rw [cutE]
      have r18 := r17.new (o := .lst (es.map V.int)) nu3
      refine ⟨u3, es, rfl, upd_same, by omega, fun H19 b s19 tb => ?_⟩
      have r19 := r18.then s19
      have e1 : mx - mn = b := (spr_top hM hm).eq tb fun _ => Iff.rfl
      refine ⟨rfl, false, bl_nn (by rw [e1]), iteF ?_⟩
      obtain ⟨x1, x2, x3⟩ := keep0 r19
      exact ⟨_, _, _, _, rfl, x1, x2, x3, by omega⟩
    · rintro σ H4 ⟨v3, v4, v5, n, rfl, s4, el, ep, hn⟩
      exact ⟨_, _, _, _, _, rfl, s4⟩
  · rintro σ H1 ⟨v1, v2, v3, v4, v5, rfl, s1⟩
    -- great
    have fact : ∀ {ns : List Int} {mx mn : Int} (v w : Int), IsMax (stdL ns) mx → IsMin (stdL ns) mn → (v ∈ stdL ns ∧ ∀ y ∈ stdL ns, y ≤ v) → (w ∈ stdL ns ∧ ∀ y ∈ stdL ns, w ≤ y) → mx - mn = v - w := fun v w h g a b => by
      rw [h.eq ⟨a.1, a.2⟩, g.eq ⟨b.1, b.2⟩]
    refine ⟨(by show 1 ≤ sizeLine; decide), fun l nl => ?_⟩
    refine ⟨l, 200, _, rfl, rfl, upd_same, by decide, by decide, (by show 1 * 200 ≤ sizeLine; decide), fun gr ngr => ?_⟩
    refine ⟨.ref gr, rfl, gr, List.replicate 200 99, rfl, upd_same, (by decide), fun H2 mx mn s2 hM hm => ⟨rfl, true, bl_tt ?_, iteT ?_⟩⟩
    · rw [fact 99 0 hM hm ⟨by decide +kernel, by decide +kernel⟩ ⟨by decide +kernel, by decide +kernel⟩] <;> rfl
    refine ⟨(by show 2 ≤ sizeLine; decide), fun l2 nl2 => ?_⟩
    refine ⟨l2, 100, _, rfl, rfl, upd_same, by decide, by decide, (by show 2 * 100 ≤ sizeLine; decide), fun g2 ng2 => ?_⟩
    refine ⟨g2, (List.replicate 100 [99, 0]).flatten, rfl, upd_same, (by decide), fun H3 mx mn s3 hM hm => ⟨rfl, true, bl_tt ?_, iteT ?_⟩⟩
    · rw [fact 9900 0 hM hm ⟨by decide +kernel, by decide +kernel⟩ ⟨by decide +kernel, by decide +kernel⟩] <;> rfl
    refine ⟨(by show 1 ≤ sizeLine; decide), fun l3 nl3 => ?_⟩
    refine ⟨l3, [0], rfl, upd_same, (by decide), fun H4 mx mn s4 hM hm => ⟨rfl, same_tt ?_ (k _)⟩⟩
    rw [fact 0 0 hM hm ⟨by decide +kernel, by decide +kernel⟩ ⟨by decide +kernel, by decide +kernel⟩] <;> rfl
end
theorem all_mk {l : PySem.W.OpenLaw} {w : World} {K : PySem.W.Frag} {h : Heap} {mg : Str → Option Value} {fa : Addr} (X : K.In h) (G : h.Ns mainGlobals mg) (hfa : mg "law" = some (.ref fa))
    {f1 : Addr} {od1 an1 : Option Addr} {sl1 : Array (Option Value)} {oc1 kV1 dc1 pm1 cd1 ct1 : Value}
    {f2 : Addr} {od2 an2 : Option Addr} {sl2 : Array (Option Value)} {oc2 kV2 dc2 pm2 cd2 ct2 : Value}
    {f3 : Addr} {od3 an3 : Option Addr} {sl3 : Array (Option Value)} {oc3 kV3 dc3 pm3 cd3 ct3 : Value}
    {f4 : Addr} {od4 an4 : Option Addr} {sl4 : Array (Option Value)} {oc4 kV4 dc4 pm4 cd4 ct4 : Value}
    {f5 : Addr} {od5 an5 : Option Addr} {sl5 : Array (Option Value)} {oc5 kV5 dc5 pm5 cd5 ct5 : Value}
    {f6 : Addr} {od6 an6 : Option Addr} {sl6 : Array (Option Value)} {oc6 kV6 dc6 pm6 cd6 ct6 : Value}
    {f7 : Addr} {od7 an7 : Option Addr} {sl7 : Array (Option Value)} {oc7 kV7 dc7 pm7 cd7 ct7 : Value}
    {f8 : Addr} {od8 an8 : Option Addr} {sl8 : Array (Option Value)} {oc8 kV8 dc8 pm8 cd8 ct8 : Value}
    {f9 : Addr} {od9 an9 : Option Addr} {sl9 : Array (Option Value)} {oc9 kV9 dc9 pm9 cd9 ct9 : Value}
    {f10 : Addr} {od10 an10 : Option Addr} {sl10 : Array (Option Value)} {oc10 kV10 dc10 pm10 cd10 ct10 : Value}
    (a1 : PySem.W.nsIn K mainGlobals "next_stand" = some (some (.ref f1)))
    (l1 : K.lookup f1 = some ⟨oc1, od1, .func (PySem.W.fnOf "next_stand" "next_stand" (defArgs s_next_stand) (defBody s_next_stand) (defScope s_next_stand) .none kV1 dc1 pm1 an1 cd1 ct1), sl1⟩)
    (c1 : PySem.W.codeIn K cd1 "next_stand" = true)
    (k1 : PySem.W.keepIn K (.ref f1) = true)
    (a2 : PySem.W.nsIn K mainGlobals "fewest_seen" = some (some (.ref f2)))
    (l2 : K.lookup f2 = some ⟨oc2, od2, .func (PySem.W.fnOf "fewest_seen" "fewest_seen" (defArgs s_fewest_seen) (defBody s_fewest_seen) (defScope s_fewest_seen) .none kV2 dc2 pm2 an2 cd2 ct2), sl2⟩)
    (c2 : PySem.W.codeIn K cd2 "fewest_seen" = true)
    (k2 : PySem.W.keepIn K (.ref f2) = true)
    (a3 : PySem.W.nsIn K mainGlobals "_stands" = some (some (.ref f3)))
    (l3 : K.lookup f3 = some ⟨oc3, od3, .func (PySem.W.fnOf "_stands" "_stands" (defArgs s_stands) (defBody s_stands) (defScope s_stands) .none kV3 dc3 pm3 an3 cd3 ct3), sl3⟩)
    (c3 : PySem.W.codeIn K cd3 "_stands" = true)
    (k3 : PySem.W.keepIn K (.ref f3) = true)
    (a4 : PySem.W.nsIn K mainGlobals "_law_till" = some (some (.ref f4)))
    (l4 : K.lookup f4 = some ⟨oc4, od4, .func (PySem.W.fnOf "_law_till" "_law_till" (defArgs s_law_till) (defBody s_law_till) (defScope s_law_till) .none kV4 dc4 pm4 an4 cd4 ct4), sl4⟩)
    (c4 : PySem.W.codeIn K cd4 "_law_till" = true)
    (k4 : PySem.W.keepIn K (.ref f4) = true)
    (a5 : PySem.W.nsIn K mainGlobals "_law_tip" = some (some (.ref f5)))
    (l5 : K.lookup f5 = some ⟨oc5, od5, .func (PySem.W.fnOf "_law_tip" "_law_tip" (defArgs s_law_tip) (defBody s_law_tip) (defScope s_law_tip) .none kV5 dc5 pm5 an5 cd5 ct5), sl5⟩)
    (c5 : PySem.W.codeIn K cd5 "_law_tip" = true)
    (k5 : PySem.W.keepIn K (.ref f5) = true)
    (a6 : PySem.W.nsIn K mainGlobals "_law_counts" = some (some (.ref f6)))
    (l6 : K.lookup f6 = some ⟨oc6, od6, .func (PySem.W.fnOf "_law_counts" "_law_counts" (defArgs s_law_counts) (defBody s_law_counts) (defScope s_law_counts) .none kV6 dc6 pm6 an6 cd6 ct6), sl6⟩)
    (c6 : PySem.W.codeIn K cd6 "_law_counts" = true)
    (k6 : PySem.W.keepIn K (.ref f6) = true)
    (a7 : PySem.W.nsIn K mainGlobals "_law_fewest" = some (some (.ref f7)))
    (l7 : K.lookup f7 = some ⟨oc7, od7, .func (PySem.W.fnOf "_law_fewest" "_law_fewest" (defArgs s_law_fewest) (defBody s_law_fewest) (defScope s_law_fewest) .none kV7 dc7 pm7 an7 cd7 ct7), sl7⟩)
    (c7 : PySem.W.codeIn K cd7 "_law_fewest" = true)
    (k7 : PySem.W.keepIn K (.ref f7) = true)
    (a8 : PySem.W.nsIn K mainGlobals "_law_stretches" = some (some (.ref f8)))
    (l8 : K.lookup f8 = some ⟨oc8, od8, .func (PySem.W.fnOf "_law_stretches" "_law_stretches" (defArgs s_law_stretches) (defBody s_law_stretches) (defScope s_law_stretches) .none kV8 dc8 pm8 an8 cd8 ct8), sl8⟩)
    (c8 : PySem.W.codeIn K cd8 "_law_stretches" = true)
    (k8 : PySem.W.keepIn K (.ref f8) = true)
    (a9 : PySem.W.nsIn K mainGlobals "_law_right" = some (some (.ref f9)))
    (l9 : K.lookup f9 = some ⟨oc9, od9, .func (PySem.W.fnOf "_law_right" "_law_right" (defArgs s_law_right) (defBody s_law_right) (defScope s_law_right) .none kV9 dc9 pm9 an9 cd9 ct9), sl9⟩)
    (c9 : PySem.W.codeIn K cd9 "_law_right" = true)
    (k9 : PySem.W.keepIn K (.ref f9) = true)
    (a10 : PySem.W.nsIn K mainGlobals "law" = some (some (.ref f10)))
    (l10 : K.lookup f10 = some ⟨oc10, od10, .func (PySem.W.fnOf "law" "law" (defArgs s_law) (defBody s_law) (defScope s_law) .none kV10 dc10 pm10 an10 cd10 ct10), sl10⟩)
    (c10 : PySem.W.codeIn K cd10 "law" = true)
    (k10 : PySem.W.keepIn K (.ref f10) = true)
    (z_enumerate : PySem.W.nsIn K mainGlobals "enumerate" = some none)
    (z_int : PySem.W.nsIn K mainGlobals "int" = some none)
    (z_len : PySem.W.nsIn K mainGlobals "len" = some none)
    (z_max : PySem.W.nsIn K mainGlobals "max" = some none)
    (z_min : PySem.W.nsIn K mainGlobals "min" = some none)
    (z_range : PySem.W.nsIn K mainGlobals "range" = some none)
    (z_repr : PySem.W.nsIn K mainGlobals "repr" = some none) :
    ∃ fd : FuncData, (∀ (s : Shared) (v : Value), BindsTo s fd ⟨[v], []⟩ [("script", v)]) ∧ ∀ base : Heap, K.In base → base.Ns mainGlobals mg → Dok l.prog w K mg base CX0 5 fa fd ["script"] (sp_law K) := by
  have e := hfa.symm.trans (PySem.W.mg_of X G a10)
  cases e
  have T : Txt mg := { enumerate := PySem.W.mg_none_of X G z_enumerate, int := PySem.W.mg_none_of X G z_int, len := PySem.W.mg_none_of X G z_len, max := PySem.W.mg_none_of X G z_max, min := PySem.W.mg_none_of X G z_min, range := PySem.W.mg_none_of X G z_range, repr := PySem.W.mg_none_of X G z_repr }
  have o_next_stand : Own K mg "next_stand" s_next_stand ["stand", "cell", "times"] f1 _ := ⟨fun_mk l1 c1 k1, PySem.W.mg_of X G a1, (fun_mk (st := s_next_stand) l1 c1 k1).binds (ps := ["stand", "cell", "times"]) fun _ _ _ _ _ _ us hl => match us, hl with | [_, _, _], _ => rfl⟩
  have o_fewest_seen : Own K mg "fewest_seen" s_fewest_seen ["counts"] f2 _ := ⟨fun_mk l2 c2 k2, PySem.W.mg_of X G a2, (fun_mk (st := s_fewest_seen) l2 c2 k2).binds (ps := ["counts"]) fun _ _ _ _ _ _ us hl => match us, hl with | [_], _ => rfl⟩
  have o_stands : Own K mg "_stands" s_stands ["counts"] f3 _ := ⟨fun_mk l3 c3 k3, PySem.W.mg_of X G a3, (fun_mk (st := s_stands) l3 c3 k3).binds (ps := ["counts"]) fun _ _ _ _ _ _ us hl => match us, hl with | [_], _ => rfl⟩
  have o_law_till : Own K mg "_law_till" s_law_till ["script", "k"] f4 _ := ⟨fun_mk l4 c4 k4, PySem.W.mg_of X G a4, (fun_mk (st := s_law_till) l4 c4 k4).binds (ps := ["script", "k"]) fun _ _ _ _ _ _ us hl => match us, hl with | [_, _], _ => rfl⟩
  have o_law_tip : Own K mg "_law_tip" s_law_tip ["till", "wide"] f5 _ := ⟨fun_mk l5 c5 k5, PySem.W.mg_of X G a5, (fun_mk (st := s_law_tip) l5 c5 k5).binds (ps := ["till", "wide"]) fun _ _ _ _ _ _ us hl => match us, hl with | [_, _], _ => rfl⟩
  have o_law_counts : Own K mg "_law_counts" s_law_counts ["till", "most"] f6 _ := ⟨fun_mk l6 c6 k6, PySem.W.mg_of X G a6, (fun_mk (st := s_law_counts) l6 c6 k6).binds (ps := ["till", "most"]) fun _ _ _ _ _ _ us hl => match us, hl with | [_, _], _ => rfl⟩
  have o_law_fewest : Own K mg "_law_fewest" s_law_fewest ["tally"] f7 _ := ⟨fun_mk l7 c7 k7, PySem.W.mg_of X G a7, (fun_mk (st := s_law_fewest) l7 c7 k7).binds (ps := ["tally"]) fun _ _ _ _ _ _ us hl => match us, hl with | [_], _ => rfl⟩
  have o_law_stretches : Own K mg "_law_stretches" s_law_stretches ["tally"] f8 _ := ⟨fun_mk l8 c8 k8, PySem.W.mg_of X G a8, (fun_mk (st := s_law_stretches) l8 c8 k8).binds (ps := ["tally"]) fun _ _ _ _ _ _ us hl => match us, hl with | [_], _ => rfl⟩
  have o_law_right : Own K mg "_law_right" s_law_right ["tally"] f9 _ := ⟨fun_mk l9 c9 k9, PySem.W.mg_of X G a9, (fun_mk (st := s_law_right) l9 c9 k9).binds (ps := ["tally"]) fun _ _ _ _ _ _ us hl => match us, hl with | [_], _ => rfl⟩
  have o_law : ∀ fd, Fun K "law" "law" s_law fa fd → Own K mg "law" s_law ["script"] fa fd := fun fd F => ⟨F, PySem.W.mg_of X G a10, F.binds (ps := ["script"]) fun _ _ _ _ _ _ us hl => match us, hl with | [_], _ => rfl⟩
  refine ⟨PySem.W.fnOf "law" "law" (defArgs s_law) (defBody s_law) (defScope s_law) .none kV10 dc10 pm10 an10 cd10 ct10, fun s v => .of_eq rfl, fun base _ _ => ?_⟩
  have o := o_law _ (fun_mk (st := s_law) l10 c10 k10)
  have C_tip := ok_tip (P := l.prog) (w := w) (base := base) o_law_tip
  have C_till := ok_till (P := l.prog) (w := w) (base := base) o_law_till T
  have C_counts := ok_counts o_law_counts T C_tip
  have C_lfew := ok_lfew (P := l.prog) (w := w) (base := base) o_law_fewest T
  have C_str := ok_stretches (P := l.prog) (w := w) (base := base) o_law_stretches T
  have C_next := ok_next (P := l.prog) (w := w) (base := base) o_next_stand T
  have C_stands := ok_stands o_stands T C_next
  have C_seen := ok_seen o_fewest_seen T C_stands
  exact ok_law o T C_till C_tip C_counts C_lfew C_seen (ok_right o_law_right T C_str C_seen)
theorem walk {l : PySem.W.OpenLaw} {q : Program} {loose : List Str} {XP : (Str → Option Value) → Heap → Prop} {YP : World → Heap → Prop} {d : DefRec} {K : Params → PySem.W.Frag} (hn : l.most = some 63) (hdf : d.params.defaults = [])
    (hY : ∀ (w : World) (h : Heap), YP w h → (K w.params).In h)
    (F : ∀ (w : World) (mg : Str → Option Value) (fa : Addr) (h : Heap), (K w.params).In h → h.Ns mainGlobals mg → mg d.name = some (.ref fa) →
      ∃ fd : FuncData, (∀ (s : Shared) (u : Value), BindsTo s fd ⟨[u], []⟩ [("script", u)]) ∧ ∀ base : Heap, (K w.params).In base → base.Ns mainGlobals mg → Dok l.prog w (K w.params) mg base CX0 5 fa fd ["script"] (sp_law (K w.params))) :
    PySem.W.WalkO q loose XP YP l.row.toRowW d [] (fun f vs => PySem.call f vs) :=
  walkX (n := 63) (k := 5) (x := "script") (sp := fun w => sp_law (K w.params)) hn (by decide) hdf ⟨rfl, ⟨rfl, by decide, by decide⟩⟩ hY F (fun _ _ a ns hl hS => ⟨a, ns, rfl, hS, hl, fun _ => rfl⟩)
end Lw
open PySem PySem.W PyProof.Rows in
set_option maxRecDepth 100000 in
set_option maxHeartbeats 0 in
theorem PySem.Challenge.cw_pleatpunch_k51_fewest_seen_told_holds : PySem.Challenge.rw_pleatpunch_k51_fewest_seen_told.Holds := by
  w_on; o_law; k_head; (case hw => w_witness2)
  k_fill
  refine Lw.walk (l := PySem.Challenge.rw_pleatpunch_k51_fewest_seen_told) rfl rfl (fun w h Y => PySem.W.kIn_of Y) ?F
  case F =>
    intro w mg fa h KX G hmg
    refine' Lw.all_mk KX G hmg ?a1 ?l1 ?c1 ?k1 ?a2 ?l2 ?c2 ?k2 ?a3 ?l3 ?c3 ?k3 ?a4 ?l4 ?c4 ?k4 ?a5 ?l5 ?c5 ?k5 ?a6 ?l6 ?c6 ?k6 ?a7 ?l7 ?c7 ?k7 ?a8 ?l8 ?c8 ?k8 ?a9 ?l9 ?c9 ?k9 ?a10 ?l10 ?c10 ?k10 ?z_enumerate ?z_int ?z_len ?z_max ?z_min ?z_range ?z_repr
    (case a1 => k_is)
    (case l1 => k_is)
    (case c1 => k_is)
    (case k1 => k_is)
    (case a2 => k_is)
    (case l2 => k_is)
    (case c2 => k_is)
    (case k2 => k_is)
    (case a3 => k_is)
    (case l3 => k_is)
    (case c3 => k_is)
    (case k3 => k_is)
    (case a4 => k_is)
    (case l4 => k_is)
    (case c4 => k_is)
    (case k4 => k_is)
    (case a5 => k_is)
    (case l5 => k_is)
    (case c5 => k_is)
    (case k5 => k_is)
    (case a6 => k_is)
    (case l6 => k_is)
    (case c6 => k_is)
    (case k6 => k_is)
    (case a7 => k_is)
    (case l7 => k_is)
    (case c7 => k_is)
    (case k7 => k_is)
    (case a8 => k_is)
    (case l8 => k_is)
    (case c8 => k_is)
    (case k8 => k_is)
    (case a9 => k_is)
    (case l9 => k_is)
    (case c9 => k_is)
    (case k9 => k_is)
    (case a10 => k_is)
    (case l10 => k_is)
    (case c10 => k_is)
    (case k10 => k_is)
    (case z_enumerate => k_is)
    (case z_int => k_is)
    (case z_len => k_is)
    (case z_max => k_is)
    (case z_min => k_is)
    (case z_range => k_is)
    (case z_repr => k_is)


