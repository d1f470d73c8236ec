import PyProof.Rows.All
import Wide.All
import OpenK.AllK
import Wide.FinOn
import HandS.Base
import HandS.Call
import HandS.List
import HandS.Comp
import HandS.Ends
import HandS.Dict
import HandS.Iter
import HandS.Text
import HandS.Words
import HandS.WordsList
import HandS.Exc
import HandS.TryOnly
import HandS.ExcOwn
import HandS.IsInst
import HandS.Zip
import HandS.Walk
import HandS.Wide
import HandS.Flow
import HandS.Style
import HandS.FStr
import HandS.StrMore
import HandS.Star
import HandS.Conv
import PyProof.ReprRoads
import PyProof.SetRoads
import HandS.ExcIs
import KE.KTryMore
import HandS.WordsExc
import HandS.ExcValue
import PySem.Challenge.RW_pleatpunch_k12_where_cells_lie
set_option Elab.async false
set_option linter.all false
set_option maxRecDepth 100000
set_option maxHeartbeats 4000000

namespace Xi
open PySem PySem.Spec PyProof.Rows L2

/-! ## room for calls, and nothing is being written out -/
structure Rm (k : Nat) (A : Around) : Prop where
  g : A.guards = some []
  r : Room k A
theorem Rm.mono {j k : Nat} {A : Around} (h : Rm k A) (l : j ≤ k) : Rm j A := ⟨h.g, h.r.mono l⟩

/-- what a def keeps, where nothing is being written out -/
structure Dok (P : Program) (w : World) (K : PySem.W.Frag) (mg : Str → Option Value) (base : Heap) (CX : CXT) (k : Nat) (f : Addr) (fd : FuncData) (ps : List Str) (sp : Sp) : Prop where
  len : ∀ vs H Q E, sp vs H Q E → vs.length = ps.length
  run : ∀ (A : Around) (outer : List Env) (s : Shared) (H : Hp) (args : Args) (us : List Value) (vs : List V) (Q : VK) (E : XK),
    Rm k A → Env0 P w K mg base A outer s H → BindsTo s fd args (ps.zip us) → Vals vs us → sp vs H Q E → codeAny (model P w) A (.call (.ref f) args) (CR CX outer P w H s Q E) s

section
variable {P : Program} {w : World} {K : PySem.W.Frag} {mg : Str → Option Value} {base : Heap} {CX : CXT} {k j : Nat} {f : Addr} {fd : FuncData} {ps : List Str} {sp sp' : Sp}
theorem Dok.mono (F : Dok P w K mg base CX j f fd ps sp) (h : j ≤ k) : Dok P w K mg base CX k f fd ps sp :=
  ⟨F.len, fun A outer s H args us vs Q E hr => F.run A outer s H args us vs Q E (hr.mono h)⟩
theorem Dok.imp (F : Dok P w K mg base CX k f fd ps sp) (h : ∀ vs H Q E, sp' vs H Q E → sp vs H Q E) : Dok P w K mg base CX k f fd ps sp' :=
  ⟨fun vs H Q E q => F.len vs H Q E (h _ _ _ _ q), fun A outer s H args us vs Q E hr he hb hv hs => F.run A outer s H args us vs Q E hr he hb hv (h _ _ _ _ hs)⟩

theorem Dok.body {x qual : Str} {st : Stmt} {N : List Str} (F : Fun K x qual st f fd) (S : FnScope N ps (defScope st)) (len : ∀ vs H Q E, sp vs H Q E → vs.length = ps.length)
    (hb : ∀ (cdv : Value) (A : Around) (outer : List Env) (s : Shared) (H : Hp) (vs : List V) (Q : VK) (E : XK), Rm k (A.deeper (envOfC qual (defScope st) s.heap.objs.size f cdv)) → sp vs H Q E →
      ∃ t, PSs (cxOf CX P w K mg base N qual (defScope st) f cdv A outer s H E) (defBody st) t ∧ t { nx := fun _ H' => Q .non H', rt := Q } (start N vs) H) : Dok P w K mg base CX (k + 1) f fd ps sp := by
  obtain ⟨oc, od, kV, doc, pm, an, cdv, ct, osl, rfl, lk, hcd⟩ := F.ex
  constructor
  · exact len
  intro A outer s H args us vs Q E hr e0 hbd r hsp
  have hl := len _ _ _ _ hsp
  have KX : K.In s.heap := e0.mod.kin.keeps fun b o e => (e0.bs b o e).1
  have lim := e0.mod.nolimit.keeps (h' := s.heap) fun b o e => (e0.bs b o e).1
  have hkind : ∀ y ∈ ps.zip us, (defScope st).names.lookup y.1 = some .local ∨ ((defScope st).names.lookup y.1 = some .cell ∧ ((cellsFrom (s.heap.objs.size + 1) (defScope st).names []).lookup y.1).isSome = true) := by
    rintro ⟨n, v⟩ hy
    have q := S.par n (List.of_mem_zip hy).1
    cases q with
    | inl q => exact Or.inl q
    | inr q => exact Or.inr ⟨q, PySem.W.cellsFrom_some _ _ _ (Or.inl q)⟩
  refine codeAny_call_function hr.r.depth (KX _ _ lk) rfl S.co S.gen rfl (PySem.W.codeRec_of KX hcd) (hbd _ _ _ _ ?_)
  refine wpAny_newFunctionEnv_cells S.kind hkind ?_
  intro env he s1 x
  subst he
  refine ⟨lim.keeps x.toInCall.keep, ?_⟩
  refine codeAny_func ?_
  obtain ⟨t, ht, hq⟩ := hb cdv A outer s H vs Q E ⟨hr.g, hr.r.deeper _⟩ hsp
  have I := inv_start (CX := CX) (P := P) (w := w) (K := K) (mg := mg) (base := base) (f := f) (E := E) S hr.r.hd e0 hl r x
  refine wpAny_mono (ht.run [] s1 (start N vs) H _ I hq) ?_ fun e s' hs => hs
  intro fl s' hs
  cases fl with
  | ret u =>
    obtain ⟨v, σ', H', J, rv, q⟩ := hs
    exact ⟨v, H', J.os, J.bare, J.base, J.hok, rv, q⟩
  | next =>
    obtain ⟨σ', H', J, q⟩ := hs
    exact ⟨V.non, H', J.os, J.bare, J.base, J.hok, rfl, q⟩
  | brk =>
    obtain ⟨_, _, _, q⟩ := hs
    exact q.elim
  | cont =>
    obtain ⟨_, _, _, q⟩ := hs
    exact q.elim
end

/-! ## calls -/
section
variable {X : Cx} {CX : CXT} {k : Nat} {f C : Addr} {fd : FuncData} {ps : List Str} {sp : Sp} {dvs : List V} {ds : List Value} {E : XK} {x m : Str} {p pos apos : Pos} {e o : Expr} {es : List Expr} {ta : TE} {t tk : TA} {kws : List Keyword} {ks : List Str}
  {g : List Value → List Value → List Value} {gV : List V → List V → List V}
theorem Dok.after (F : Dok X.prog X.w X.K X.mg X.base CX k f fd ps sp) (hr : Rm k X.A) (hx : Passes CX X E) {pins : List (Addr × Obj)} {σ : L2.St} {H : Hp} {s : Shared} {Q : VK} {args : Args} {us : List Value} {vs : List V}
    (I : Inv X pins σ H s) (r : Vals vs us) (hb : BindsTo s fd args (ps.zip us)) (h : sp vs H Q E) : codeAny (model X.prog X.w) X.A (.call (.ref f) args) (fun r s' => match r with | .ok (.ret u) => EP X pins σ Q u s' | .ok _ => False | .error e => X.xe e s') s := by
  refine codeAny_mono (F.run X.A X.stack s H args us vs Q E hr I.env0 hb r h) ?_
  intro r s' hq
  cases r with
  | error e => exact hx pins σ H s e s' I hq
  | ok fl =>
    cases fl with
    | ret u => exact I.after hq
    | next => exact hq.elim
    | brk => exact hq.elim
    | cont => exact hq.elim
theorem ends {M : Model} {A : Around} {Q E : Value → Shared → Prop} {v : Value} {us : List Value} {kw : List (Str × Value)} {s : Shared}
    (h : codeAny M A (.call v ⟨us, kw⟩) (fun r s' => match r with | .ok (.ret u) => Q u s' | .ok _ => False | .error e => E e s') s) : wpAny M A (call v us kw) Q E s := by
  refine wpAny_call (codeAny_mono h ?_)
  intro r s' hq
  cases r with
  | error e => exact hq
  | ok fl => cases fl <;> exact hq
/-- f(a, ..) -/
theorem d_call (F : Dok X.prog X.w X.K X.mg X.base CX k f fd ps sp) (hr : Rm k X.A) (hg : Gl X x) (hm : X.mg x = some (.ref f)) (hk : PySem.W.keepIn X.K (.ref f) = true) (hb : Binds X.K fd ps ds) (hd : Vals dvs ds) (hx : Passes CX X E)
    (ha : PA X (e :: es) t) (hdb : (x == ("__debug__" : Str)) = false := by decide) (he : starEach (e :: es) X.env = (false, eval e X.env) :: starEach es X.env := by rfl) (hpl : (backTo pos (starEach es X.env)).any (·.1) = false := by rfl) :
    PE X (.Call (.Name x p) (e :: es) [] pos) (tCall sp dvs E t) := by
  constructor
  intro pins s σ H Q I h
  refine wpAny_Call_Name_kw (ld_glob I hg hm ?_ hdb)
  refine PySem.W.callWith_K (h₀ := X.base) I.ok.mod.kin hk (thn (ha.run pos pins s σ H _ I h) ?_) he hpl
  rintro us s1 ⟨vs, H1, I1, r, q⟩
  refine ⟨I1.kIn, ?_⟩
  have r2 : Vals (vs ++ dvs) (us ++ ds) := r.append hd
  refine ends (F.after hr hx I1 r2 (hb s1 us I1.kIn ?_) q)
  rw [← r2.length]
  exact F.len _ _ _ _ q
/-- f() -/
theorem d_call0 (F : Dok X.prog X.w X.K X.mg X.base CX k f fd ps sp) (hr : Rm k X.A) (hg : Gl X x) (hm : X.mg x = some (.ref f)) (hk : PySem.W.keepIn X.K (.ref f) = true) (hb : Binds X.K fd ps ds) (hd : Vals dvs ds) (hx : Passes CX X E)
    (hdb : (x == ("__debug__" : Str)) = false := by decide) : PE X (.Call (.Name x p) [] [] pos) (tCall sp dvs E tNil) := by
  constructor
  intro pins s σ H Q I h
  refine wpAny_Call_Name_kw (ld_glob I hg hm ?_ hdb)
  refine PySem.W.callWith_K0 I.kIn hk ?_
  have r2 : Vals ([] ++ dvs) ([] ++ ds) := Vals.append .nil hd
  refine ends (F.after hr hx I r2 (hb s [] I.kIn ?_) h)
  rw [← r2.length]
  exact F.len _ _ _ _ h
/-- f(a, .., k = v, ..) -/
theorem d_callK (F : Dok X.prog X.w X.K X.mg X.base CX k f fd ps sp) (hr : Rm k X.A) (hg : Gl X x) (hm : X.mg x = some (.ref f)) (hk : PySem.W.keepIn X.K (.ref f) = true) (hb : KBinds X.K fd ps ks g gV) (hx : Passes CX X E)
    (ha : PA X (e :: es) t) (hkw : PK X kws tk) (hall : (backToKw pos (keywordEach kws X.env)).all (·.1.isSome) = true := by rfl) (hks : (backToKw pos (keywordEach kws X.env)).filterMap (·.1) = ks := by rfl)
    (hdb : (x == ("__debug__" : Str)) = false := by decide) (he : starEach (e :: es) X.env = (false, eval e X.env) :: starEach es X.env := by rfl)
    (hpl : ((backTo pos (starEach (e :: es) X.env)).any (·.1) || (backToKw pos (keywordEach kws X.env)).any (·.1.isNone)) = false := by rfl) :
    PE X (.Call (.Name x p) (e :: es) kws pos) (tCallK sp gV E t tk) := by
  constructor
  intro pins s σ H Q I h
  refine wpAny_Call_Name_kw (ld_glob I hg hm ?_ hdb)
  refine PySem.W.callWith_KW (h₀ := X.base) I.ok.mod.kin hk hall (thn (ha.run pos pins s σ H _ I h) ?_) hpl he
  rintro us s1 ⟨vs, H1, I1, r, q⟩
  refine thn (hkw.run pos pins s1 σ H1 _ I1 q) ?_
  rintro ws s2 ⟨zs, H2, I2, rz, q2⟩
  refine ⟨I2.kIn, ?_⟩
  rw [hks]
  have r2 := hb.rel r rz
  refine ends (F.after hr hx I2 r2 (hb.to s2 us ws I2.kIn ?_) q2)
  rw [← r2.length]
  exact F.len _ _ _ _ q2
/-- f(k = v, ..) -/
theorem d_callN (F : Dok X.prog X.w X.K X.mg X.base CX k f fd ps sp) (hr : Rm k X.A) (hg : Gl X x) (hm : X.mg x = some (.ref f)) (hk : PySem.W.keepIn X.K (.ref f) = true) (hb : KBinds X.K fd ps ks g gV) (hx : Passes CX X E)
    (hkw : PK X kws tk) (hall : (backToKw pos (keywordEach kws X.env)).all (·.1.isSome) = true := by rfl) (hks : (backToKw pos (keywordEach kws X.env)).filterMap (·.1) = ks := by rfl)
    (hdb : (x == ("__debug__" : Str)) = false := by decide)
    (hpl : ((backTo pos (starEach [] X.env)).any (·.1) || (backToKw pos (keywordEach kws X.env)).any (·.1.isNone)) = false := by rfl) :
    PE X (.Call (.Name x p) [] kws pos) (tCallK sp gV E tNil tk) := by
  constructor
  intro pins s σ H Q I h
  refine wpAny_Call_Name_kw (ld_glob I hg hm ?_ hdb)
  refine PySem.W.callWith_KW0 (h₀ := X.base) I.ok.mod.kin hk hall ?_ hpl
  refine thn (hkw.run pos pins s σ H _ I h) ?_
  rintro ws s2 ⟨zs, H2, I2, rz, q2⟩
  refine ⟨I2.kIn, ?_⟩
  rw [hks]
  have r2 := hb.rel (.nil : Vals [] []) rz
  refine ends (F.after hr hx I2 r2 (hb.to s2 [] ws I2.kIn ?_) q2)
  rw [← r2.length]
  exact F.len _ _ _ _ q2
end
end Xi

namespace Xi
open PySem PySem.Spec PyProof.Rows L2
/-! ## the end: a law's def, called with the script -/
section
variable {P : Program} {w : World} {K : PySem.W.Frag} {mg mb : Str → Option Value} {k : Nat} {fa a : Addr} {fd : FuncData} {x : Str} {sp : Sp} {s : Shared} {us : List Value} {ns : List Int}
theorem at_top (KX : K.In s.heap) (n1 : s.heap.Ns mainGlobals mg) (n2 : s.heap.Ns builtinsNs mb) (n3 : ∀ y : Str, y ≠ "__name__" → mb y = bootBuiltins y) (lim : s.heap.NoLimit) (hg : s.gens = #[]) (hr : Rm k callerA)
    (F : ∀ base : Heap, K.In base → base.Ns mainGlobals mg → Dok P w K mg base CX0 k fa fd [x] sp) (hb : ∀ (s : Shared) (u : Value), BindsTo s fd ⟨[u], []⟩ [(x, u)])
    {H : Hp} (ok : HOk P w H s.heap) (one : ∀ b u, H b = some u → b = a ∧ K.lookup a = none ∧ u = .frz { cls := .type "list", data := .seq us.toArray } (.lst (ns.map V.int)))
    (ha : s.heap.get? a = some { cls := .type "list", data := .seq us.toArray }) (h : sp [.ref a] H (fun v _ => v = .bl true) fun _ _ _ => False) :
    codeAny (model P w) callerA (.call (.ref fa) ⟨[.ref a], []⟩) (fun r s' => r = .ok (.ret (.bool true)) ∧ OldK s.heap s'.heap ∧ s'.os = s.os ∧ AllBare s'.gens) s := by
  have free : ∀ {b : Addr} {o : Obj}, s.heap.get? b = some o → b ≠ a ∨ K.lookup a ≠ none → H b = none := by
    intro b o e d
    cases q : H b with
    | none => rfl
    | some u =>
      obtain ⟨e1, e2, _⟩ := one b u q
      cases d with
      | inl d => exact (d e1).elim
      | inr d => exact (d e2).elim
  have low : ∀ {b : Addr} {o : Obj}, s.heap.get? b = some o → H b = none → (hidT s.heap H).get? b = some o := fun e n => hidT_get e n
  have ns_ : ∀ {b : Addr} {m : Str → Option Value}, s.heap.Ns b m → (hidT s.heap H).Ns b m := by
    rintro b m ⟨o, es, ep, e, d, r⟩
    refine ⟨o, es, ep, low e (free e (.inl ?_)), d, r⟩
    rintro rfl
    rw [ha] at e
    cases e
    cases d
  have kin : K.In (hidT s.heap H) := by
    intro b o e
    refine low (KX b o e) (free (KX b o e) ?_)
    by_cases eb : b = a
    · subst eb
      refine .inr fun z => ?_
      rw [z] at e
      cases e
    · exact .inl eb
  have M : Mod K mg (hidT s.heap H) := by
    obtain ⟨mc, h1, h2⟩ := lim
    exact ⟨kin, ns_ n1, ⟨mb, ns_ n2, n3⟩, ⟨mc, ns_ h1, h2⟩⟩
  have e0 : Env0 P w K mg (hidT s.heap H) callerA [] s H := by
    refine ⟨rfl, M, fun b o e => of_hidT e, Nat.le_of_eq (hidT_size _ _), True.intro, ?_, ok, .of_eq hg⟩
    intro b hb
    cases (show b ∈ ([] : List Addr) from hb)
  refine codeAny_mono ((F _ kin (ns_ n1)).run callerA [] s H ⟨[.ref a], []⟩ [.ref a] [.ref a] _ _ hr e0 (hb s (.ref a)) (.cons rfl .nil) h) ?_
  intro r s' hq
  cases r with
  | error e => exact hq.elim
  | ok fl =>
    cases fl with
    | next => exact hq.elim
    | brk => exact hq.elim
    | cont => exact hq.elim
    | ret u =>
      obtain ⟨v, H', os, bare, un, ok', r', q⟩ := hq
      cases (show v = .bl true from q)
      cases (show u = Value.bool true from r')
      refine ⟨rfl, OldK.of_keep ?_, os, bare⟩
      intro b o e
      cases q2 : H b with
      | none =>
        refine un.keep b o e q2 ?_ ?_ <;> (intro z; cases (show b ∈ ([] : List Addr) from z))
      | some u2 =>
        obtain ⟨rfl, _, rfl⟩ := one b u2 q2
        obtain ⟨e2, _⟩ := ok' b _ (un.frzs b _ _ q2)
        rw [ha] at e
        cases e
        exact e2

/-- the heap in which the script alone is tracked -/
def HScr (a : Addr) (us : List Value) (ns : List Int) : Hp := fun b => if b = a then some (.frz { cls := .type "list", data := .seq us.toArray } (.lst (ns.map V.int))) else none

theorem walkX {l : PySem.W.OpenLaw} {n k : Nat} {q : Program} {loose : List Str} {XP : (Str → Option Value) → Heap → Prop} {YP : World → Heap → Prop} {d : DefRec} {K : Params → PySem.W.Frag} {sp : World → Sp} {x : Str}
    (hn : l.most = some n) (hn2 : n ≤ sizeLine) (hdf : d.params.defaults = []) (hr : Rm k callerA) (hY : ∀ (w : World) (h : Heap), YP w h → (K w.params).In h)
    (F : ∀ (w : World) (mg : Str → Option Value) (fa : Addr) (h : Heap), (K w.params).In h → h.Ns mainGlobals mg → mg d.name = some (.ref fa) →
      ∃ fd : FuncData, (∀ (s : Shared) (u : Value), BindsTo s fd ⟨[u], []⟩ [(x, u)]) ∧ ∀ base : Heap, (K w.params).In base → base.Ns mainGlobals mg → Dok l.prog w (K w.params) mg base CX0 k fa fd [x] (sp w))
    (hsp : ∀ (w : World) (H : Hp) (a : Addr) (ns : List Int), ns.length ≤ n → SqL (K w.params) H a (ns.map V.int) → sp w [.ref a] H (fun v _ => v = .bl true) fun _ _ _ => False) :
    PySem.W.WalkO q loose XP YP l.row.toRowW d [] (fun f vs => PySem.call f vs) := by
  refine Att.attach_call hn hdf ?_
  intro w s₀ s₁ mg mb fa o pm cd doc a vs ns G Y ho hd hcd hmg hobj hints hlen hg
  have KX := hY w _ Y
  obtain ⟨fd, hb, hF⟩ := F w mg fa _ KX G.T.g hmg
  have hl : ns.length ≤ sizeLine := Nat.le_trans hlen hn2
  have rv := vals_ints hints
  have lv := hints.length
  cases hk : (K w.params).lookup a with
  | some ob =>
    have e := KX a ob hk
    rw [hobj] at e
    cases e
    refine at_top (us := vs) (ns := ns) (H := fun _ => none) KX G.T.g G.T.b G.T.builtins G.T.nolimit hg hr hF hb (fun _ _ e => by cases e) (fun _ _ e => by cases e) hobj (hsp w _ a ns hlen ?_)
    exact .inr ⟨_, vs.toArray, _, hk, rfl, rfl, rfl, by rw [List.size_toArray, lv]; exact hl, by simpa using rv⟩
  | none =>
    have at_ : HScr a vs ns a = some (.frz { cls := .type "list", data := .seq vs.toArray } (.lst (ns.map V.int))) := if_pos rfl
    refine at_top (us := vs) (ns := ns) (H := HScr a vs ns) KX G.T.g G.T.b G.T.builtins G.T.nolimit hg hr hF hb ?_ ?_ hobj (hsp w _ a ns hlen (.inl (.inr ⟨_, at_⟩)))
    · intro b u e
      by_cases eb : b = a
      · subst eb
        cases at_.symm.trans e
        exact ⟨hobj, by rw [List.length_map]; exact hl, vs, _, rv, hobj⟩
      · cases (if_neg eb).symm.trans e
    · intro b u e
      by_cases eb : b = a
      · subst eb
        cases at_.symm.trans e
        exact ⟨rfl, hk, rfl⟩
      · cases (if_neg eb).symm.trans e
end
end Xi

namespace Xi
open PySem PySem.Spec PyProof.Rows L2
/-! ## the reel: a list of three ints that is drawn from; n: how many draws it is good for -/
def RB (n : Nat) (x y z : Int) : Prop := 0 ≤ x ∧ 0 ≤ y ∧ y < 2 ^ 200 ∧ 0 ≤ z ∧ z + (n : Int) ≤ 1000000000
theorem RB.less {n m : Nat} {x y z : Int} (h : RB n x y z) (l : m ≤ n) : RB m x y z := by
  obtain ⟨a, b, c, d, e⟩ := h
  exact ⟨a, b, c, d, by omega⟩
def reelL (x y z : Int) : HO := .lst [.int x, .int y, .int z]
def ReelO (n : Nat) (p : Addr) : Heap → Prop := fun h => ∃ (x y z : Int) (t1 t2 t3 : Tok) (k : Nat), h.get? p = some { cls := .type "list", data := .seq #[.int x t1, .int y t2, .int z t3] k } ∧ RB n x y z
def rl (n : Nat) (p : Addr) : HO := .ext (ReelO n p)

theorem three_of {x y z : Int} {its : List Value} (h : Vals [.int x, .int y, .int z] its) : ∃ t1 t2 t3, its = [.int x t1, .int y t2, .int z t3] := by
  cases h with
  | cons a h =>
    cases h with
    | cons b h =>
      cases h with
      | cons c h =>
        cases h
        obtain ⟨t1, rfl⟩ := a
        obtain ⟨t2, rfl⟩ := b
        obtain ⟨t3, rfl⟩ := c
        exact ⟨t1, t2, t3, rfl⟩

section
variable {P : Program} {w : World} {K : PySem.W.Frag} {mg : Str → Option Value} {base : Heap} {k : Nat} {f : Addr} {fd : FuncData} {ps : List Str} {sp spX : Sp} {H H1 : Hp} {h : Heap} {p : Addr} {n : Nat} {x y z : Int}
theorem seen_other {o o' : HO} (ok : HOk P w (upd H p o) h) (n1 : ∀ c, o ≠ .own c) (n2 : ∀ xs, o ≠ .tup xs) (at_ : ObjOk P w (upd H p o') h p o') : HOk P w (upd H p o') h := by
  intro b u e
  by_cases eb : b = p
  · subst eb
    rw [upd_same] at e
    cases e
    exact at_
  · rw [upd_ne eb] at e
    refine (ok b u (by rw [upd_ne eb]; exact e)).stay (fun _ _ _ q => q) ?_ ?_
    · intro c q
      by_cases ec : c = p
      · subst ec
        rw [upd_same] at q
        exact (n1 _ (Option.some.inj q)).elim
      · rw [upd_ne ec] at q ⊢
        exact q
    · intro c xs q
      by_cases ec : c = p
      · subst ec
        rw [upd_same] at q
        exact (n2 _ (Option.some.inj q)).elim
      · rw [upd_ne ec] at q ⊢
        exact q
theorem reel_close (ok : HOk P w (upd H p (reelL x y z)) h) (b : RB n x y z) : HOk P w (upd H p (rl n p)) h := by
  refine seen_other ok (fun _ e => by cases e) (fun _ e => by cases e) ?_
  obtain ⟨_, its, m, r, e⟩ := ok p _ upd_same
  obtain ⟨t1, t2, t3, rfl⟩ := three_of r
  refine ⟨⟨x, y, z, t1, t2, t3, m, e, b⟩, ⟨_, e⟩, ?_⟩
  rintro h1 h2 ⟨x, y, z, t1, t2, t3, m, e, b⟩ st
  exact ⟨x, y, z, t1, t2, t3, m, st _ e, b⟩
theorem reel_open (ok : HOk P w H h) (hp : H p = some (rl n p)) : ∃ x y z, RB n x y z ∧ HOk P w (upd H p (reelL x y z)) h := by
  obtain ⟨⟨x, y, z, t1, t2, t3, m, e, b⟩, _⟩ := ok p _ hp
  have eH : upd H p (rl n p) = H := by
    funext c
    unfold upd
    split
    · rename_i q
      rw [q, hp]
    · rfl
  refine ⟨x, y, z, b, ?_⟩
  rw [← eH] at ok
  refine seen_other ok (fun _ q => by cases q) (fun _ q => by cases q) ?_
  exact ⟨by show 3 ≤ sizeLine; decide, [.int x t1, .int y t2, .int z t3], m, .cons ⟨t1, rfl⟩ (.cons ⟨t2, rfl⟩ (.cons ⟨t3, rfl⟩ .nil)), e⟩
/-- the same objects are tracked, what leans on nothing else as it was -/
structure Vw (H H1 : Hp) : Prop where
  n : ∀ b, H b = none ↔ H1 b = none
  t : ∀ b xs, H b = some (.tup xs) ↔ H1 b = some (.tup xs)
  f : ∀ b o u, H b = some (.frz o u) ↔ H1 b = some (.frz o u)
  c : ∀ b ts, H b = some (.tbl ts) ↔ H1 b = some (.tbl ts)
theorem Vw.of {o o' : HO} (hp : H p = some o) (a : (∀ xs, o ≠ .tup xs) ∧ (∀ q u, o ≠ .frz q u) ∧ ∀ ts, o ≠ .tbl ts) (a' : (∀ xs, o' ≠ .tup xs) ∧ (∀ q u, o' ≠ .frz q u) ∧ ∀ ts, o' ≠ .tbl ts) : Vw H (upd H p o') := by
  have core : ∀ b (u : Option HO), (u ≠ some o) → (u ≠ some o') → (H b = u ↔ upd H p o' b = u) := by
    intro b u h1 h2
    by_cases eb : b = p
    · subst eb
      rw [upd_same, hp]
      exact ⟨fun e => (h1 e.symm).elim, fun e => (h2 e.symm).elim⟩
    · rw [upd_ne eb]
  refine ⟨fun b => core b _ (fun e => by cases e) (fun e => by cases e), fun b xs => core b _ (fun e => a.1 xs ?_) (fun e => a'.1 xs ?_), fun b q u => core b _ (fun e => a.2.1 q u ?_) (fun e => a'.2.1 q u ?_), fun b ts => core b _ (fun e => a.2.2 ts ?_) (fun e => a'.2.2 ts ?_)⟩ <;> exact (Option.some.inj e).symm
theorem Vw.un {fs ex : List Addr} {H2 H3 : Hp} {h' : Heap} (v : Vw H H1) (u : Un fs ex H1 H2 h h') (v' : Vw H2 H3) : Un fs ex H H3 h h' :=
  ⟨fun b o e n => u.keep b o e ((v.n b).mp n), fun b o e n => u.slot b o e ((v.n b).mp n), fun b o e n q => (v'.n b).mp (u.free b o e ((v.n b).mp n) q), u.there,
    fun b xs e => (v'.t b xs).mp (u.tups b xs ((v.t b xs).mp e)), fun b o xs e => (v'.f b o xs).mp (u.frzs b o xs ((v.f b o xs).mp e)), fun b ts e => by
      obtain ⟨more, q⟩ := u.tbls b ts ((v.c b ts).mp e)
      exact ⟨more, (v'.c b _).mp q⟩⟩
theorem vw_refl : Vw H H := ⟨fun _ => Iff.rfl, fun _ _ => Iff.rfl, fun _ _ _ => Iff.rfl, fun _ _ => Iff.rfl⟩
theorem vw_close : Vw (upd H p (reelL x y z)) (upd H p (rl n p)) := by
  have e : upd H p (rl n p) = upd (upd H p (reelL x y z)) p (rl n p) := upd_upd.symm
  rw [e]
  exact Vw.of upd_same ⟨fun _ q => (by cases q), fun _ _ q => (by cases q), fun _ q => (by cases q)⟩ ⟨fun _ q => (by cases q), fun _ _ q => (by cases q), fun _ q => (by cases q)⟩
theorem vw_open (hp : H p = some (rl n p)) : Vw H (upd H p (reelL x y z)) :=
  Vw.of hp ⟨fun _ q => (by cases q), fun _ _ q => (by cases q), fun _ q => (by cases q)⟩ ⟨fun _ q => (by cases q), fun _ _ q => (by cases q), fun _ q => (by cases q)⟩
/-- what a def that hands a reel back, as three ints, is worth to those who see the reel alone -/
def QR (Q : VK) : VK := fun v H' => ∃ (H1 : Hp) (p : Addr) (x y z : Int) (n : Nat), RB n x y z ∧ H' = upd H1 p (reelL x y z) ∧ Q v (upd H1 p (rl n p))
theorem ce_reel {outer : List Env} {H' : Hp} {s s' : Shared} {Q : VK} {u : Value} (v : Vw H H') (c : CE outer P w H' s (QR Q) u s') : CE outer P w H s Q u s' := by
  obtain ⟨x, H2, os, bare, un, ok, r, H3, p, a, b, c, n, bd, rfl, q⟩ := c
  exact ⟨x, _, os, bare, v.un un vw_close, reel_close ok bd, r, q⟩
theorem Dok.made (F : Dok P w K mg base CX0 k f fd ps sp) (hs : ∀ vs H Q E, spX vs H Q E → sp vs H (QR Q) E) : Dok P w K mg base CX0 k f fd ps spX := by
  refine ⟨fun vs H Q E e => F.len _ _ _ _ (hs _ _ _ _ e), ?_⟩
  intro A outer s H args us vs Q E hr e0 hb r e
  refine codeAny_mono (F.run A outer s H args us vs _ E hr e0 hb r (hs _ _ _ _ e)) ?_
  intro r s' hq
  cases r with
  | error e => exact hq
  | ok fl =>
    cases fl with
    | ret u => exact ce_reel vw_refl hq
    | next => exact hq
    | brk => exact hq
    | cont => exact hq
theorem Dok.reel (F : Dok P w K mg base CX0 k f fd ps sp) (len : ∀ vs H Q E, spX vs H Q E → vs.length = ps.length)
    (hs : ∀ vs H Q E, spX vs H Q E → ∃ p n, H p = some (rl n p) ∧ ∀ x y z, RB n x y z → sp vs (upd H p (reelL x y z)) (QR Q) E) : Dok P w K mg base CX0 k f fd ps spX := by
  refine ⟨len, ?_⟩
  intro A outer s H args us vs Q E hr e0 hb r e
  obtain ⟨p, n, hp, hs⟩ := hs _ _ _ _ e
  obtain ⟨x, y, z, bd, ok⟩ := reel_open e0.hok hp
  have v : Vw H (upd H p (reelL x y z)) := vw_open hp
  have e1 : Env0 P w K mg base A outer s (upd H p (reelL x y z)) :=
    ⟨e0.frames, e0.mod, fun b o e => ⟨(e0.bs b o e).1, (v.n b).mp (e0.bs b o e).2⟩, e0.bsz, e0.funs, fun b q => (v.n b).mp (e0.frf b q), ok, e0.bare⟩
  refine codeAny_mono (F.run A outer s _ args us vs _ E hr e1 hb r (hs x y z bd)) ?_
  intro r s' hq
  cases r with
  | error e => exact hq
  | ok fl =>
    cases fl with
    | ret u => exact ce_reel v hq
    | next => exact hq
    | brk => exact hq
    | cont => exact hq
end

/-! ## what stays: all that was tracked; all but the reel at p, which falls from n draws to m -/
theorem same_new {H : Hp} {p : Addr} {o : HO} (h : H p = none) : Same H (upd H p o) := fun b x e => by
  rw [upd_ne (ne_of_none e h)]
  exact e
structure Sr (p : Addr) (n m : Nat) (H H' : Hp) : Prop where
  a : H p = some (rl n p)
  b : H' p = some (rl m p)
  s : ∀ b o, b ≠ p → H b = some o → H' b = some o
theorem rl_ne_lst {n : Nat} {p : Addr} {xs : List V} : rl n p ≠ .lst xs := fun e => by cases e
theorem rl_ne_tup {n : Nat} {p : Addr} {xs : List V} : rl n p ≠ .tup xs := fun e => by cases e
theorem rl_ne_frz {n : Nat} {p : Addr} {o : Obj} {u : HO} : rl n p ≠ .frz o u := fun e => by cases e
section
variable {p q : Addr} {n m k : Nat} {H H' H1 H2 : Hp} {xs : List V} {o : HO}
theorem Sr.of (s : Same H H') (h : H p = some (rl n p)) : Sr p n n H H' := ⟨h, s _ _ h, fun b o _ e => s b o e⟩
theorem Sr.refl (h : H p = some (rl n p)) : Sr p n n H H := .of (Same.refl H) h
theorem Sr.trans (a : Sr p n m H H1) (b : Sr p m k H1 H2) : Sr p n k H H2 := ⟨a.a, b.b, fun c o d e => b.s c o d (a.s c o d e)⟩
theorem Sr.then (a : Sr p n m H H1) (b : Same H1 H2) : Sr p n m H H2 := ⟨a.a, b _ _ a.b, fun c o d e => b c o (a.s c o d e)⟩
theorem Sr.new (a : Sr p n m H H1) (h : H1 q = none) : Sr p n m H (upd H1 q o) := a.then (same_new h)
theorem Sr.free (a : Sr p n m H H1) (h : H1 q = none) : H q = none := by
  cases e : H q with
  | none => rfl
  | some o =>
    have d : q ≠ p := fun d => by
      rw [d, a.b] at h
      cases h
    rw [a.s q o d e] at h
    cases h
/-- an object that was not there is changed -/
theorem Sr.mut (a : Sr p n m H H1) (h : H q = none) : Sr p n m H (upd H1 q o) := by
  have d : p ≠ q := ne_of_none a.a h
  refine ⟨a.a, by rw [upd_ne d]; exact a.b, fun b u e1 e2 => ?_⟩
  rw [upd_ne (ne_of_none e2 h)]
  exact a.s b u e1 e2
theorem Sr.lst (a : Sr p n m H H1) (h : H q = some (.lst xs)) : H1 q = some (.lst xs) := a.s _ _ (ne_of h a.a rl_ne_lst.symm) h
theorem Sr.tup (a : Sr p n m H H1) (h : H q = some (.tup xs)) : H1 q = some (.tup xs) := a.s _ _ (ne_of h a.a rl_ne_tup.symm) h
theorem Sr.seq {K : PySem.W.Frag} (a : Sr p n m H H1) (h : SqL K H q xs) : SqL K H1 q xs := by
  rcases h with (h | ⟨o, h⟩) | h
  · exact .inl (.inl (a.lst h))
  · exact .inl (.inr ⟨o, a.s _ _ (ne_of h a.a rl_ne_frz.symm) h⟩)
  · exact .inr h
theorem same_mut {H0 : Hp} (a : Same H0 H1) (h : H0 q = none) : Same H0 (upd H1 q o) := fun b u e => by
  rw [upd_ne (ne_of_none e h)]
  exact a b u e
end
theorem same_old {H H1 H2 : Hp} {p : Addr} {n m : Nat} (s : Same H H1) (r : Sr p n m H1 H2) (h : H p = none) : Same H H2 := fun b o e =>
  r.s b o (ne_of_none e h) (s b o e)

/-! ## data, all of it tracked -/
mutual
inductive Dt (H : Hp) : V → PyData → Prop
  | non : Dt H .non .none
  | bl (b : Bool) : Dt H (.bl b) (.bool b)
  | int (i : Int) : Dt H (.int i) (.int i)
  | str (x : Str) : Dt H (.str x) (.str x)
  | lst {a : Addr} {xs : List V} {ds : List PyData} : H a = some (.lst xs) → DtAll H xs ds → Dt H (.ref a) (.list ds)
  | tup {a : Addr} {xs : List V} {ds : List PyData} : H a = some (.tup xs) → DtAll H xs ds → Dt H (.ref a) (.tuple ds)
inductive DtAll (H : Hp) : List V → List PyData → Prop
  | nil : DtAll H [] []
  | cons {v : V} {vs : List V} {d : PyData} {ds : List PyData} : Dt H v d → DtAll H vs ds → DtAll H (v :: vs) (d :: ds)
end
section
variable {H H' : Hp}
mutual
theorem Dt.keep (k1 : ∀ b xs, H b = some (.lst xs) → H' b = some (.lst xs)) (k2 : ∀ b xs, H b = some (.tup xs) → H' b = some (.tup xs)) : ∀ {d : PyData} {v : V}, Dt H v d → Dt H' v d
  | .none, _, h => by cases h; exact .non
  | .bool _, _, h => by cases h; exact .bl _
  | .int _, _, h => by cases h; exact .int _
  | .str _, _, h => by cases h; exact .str _
  | .list ds, _, h => by
    cases h with
    | lst e r => exact .lst (k1 _ _ e) (DtAll.keep k1 k2 r)
  | .tuple ds, _, h => by
    cases h with
    | tup e r => exact .tup (k2 _ _ e) (DtAll.keep k1 k2 r)
  | .dict _, _, h => by cases h
theorem DtAll.keep (k1 : ∀ b xs, H b = some (.lst xs) → H' b = some (.lst xs)) (k2 : ∀ b xs, H b = some (.tup xs) → H' b = some (.tup xs)) : ∀ {ds : List PyData} {vs : List V}, DtAll H vs ds → DtAll H' vs ds
  | [], _, h => by cases h; exact .nil
  | d :: ds, _, h => by
    cases h with
    | cons a r => exact .cons (Dt.keep k1 k2 a) (DtAll.keep k1 k2 r)
end
theorem Dt.same {v : V} {d : PyData} (h : Dt H v d) (s : Same H H') : Dt H' v d := h.keep (fun b xs => s b _) fun b xs => s b _
theorem DtAll.same {vs : List V} {ds : List PyData} (h : DtAll H vs ds) (s : Same H H') : DtAll H' vs ds := h.keep (fun b xs => s b _) fun b xs => s b _
theorem Dt.sr {v : V} {d : PyData} {p : Addr} {n m : Nat} (h : Dt H v d) (s : Sr p n m H H') : Dt H' v d := h.keep (fun b xs => s.lst) fun b xs => s.tup
theorem DtAll.sr {vs : List V} {ds : List PyData} {p : Addr} {n m : Nat} (h : DtAll H vs ds) (s : Sr p n m H H') : DtAll H' vs ds := h.keep (fun b xs => s.lst) fun b xs => s.tup
theorem DtAll.len : ∀ {vs : List V} {ds : List PyData}, DtAll H vs ds → vs.length = ds.length
  | _, [], h => by cases h; rfl
  | _, d :: ds, h => by
    cases h with
    | cons a r => simp [DtAll.len r]
theorem DtAll.get : ∀ {vs : List V} {ds : List PyData} {i : Nat} {d : PyData}, DtAll H vs ds → ds[i]? = some d → ∃ v, vs[i]? = some v ∧ Dt H v d
  | _, [], _, _, h, e => by simp at e
  | _, d :: ds, 0, d', h, e => by
    cases h with
    | cons a r =>
      simp at e
      subst e
      exact ⟨_, rfl, a⟩
  | _, d :: ds, i + 1, d', h, e => by
    cases h with
    | cons a r =>
      obtain ⟨v, e1, h1⟩ := DtAll.get (i := i) r (by simpa using e)
      exact ⟨v, by simpa using e1, h1⟩
theorem DtAll.append : ∀ {vs ws : List V} {ds es : List PyData}, DtAll H vs ds → DtAll H ws es → DtAll H (vs ++ ws) (ds ++ es)
  | _, _, [], _, h, g => by cases h; exact g
  | _, _, d :: ds, _, h, g => by
    cases h with
    | cons a r => exact .cons a (DtAll.append r g)
theorem DtAll.take : ∀ {vs : List V} {ds : List PyData} (n : Nat), DtAll H vs ds → DtAll H (vs.take n) (ds.take n)
  | _, _, 0, _ => by simp only [List.take_zero]; exact .nil
  | _, [], _ + 1, h => by cases h; exact .nil
  | _, d :: ds, n + 1, h => by
    cases h with
    | cons a r => exact .cons a (DtAll.take n r)
theorem DtAll.drop : ∀ {vs : List V} {ds : List PyData} (n : Nat), DtAll H vs ds → DtAll H (vs.drop n) (ds.drop n)
  | _, _, 0, h => h
  | _, [], _ + 1, h => by cases h; exact .nil
  | _, d :: ds, n + 1, h => by
    cases h with
    | cons a r => exact DtAll.drop n r
theorem DtAll.one {v : V} {d : PyData} (h : Dt H v d) : DtAll H [v] [d] := .cons h .nil
theorem DtAll.reverse : ∀ {vs : List V} {ds : List PyData}, DtAll H vs ds → DtAll H vs.reverse ds.reverse
  | _, [], h => by cases h; exact .nil
  | _, d :: ds, h => by
    cases h with
    | cons a r =>
      rw [List.reverse_cons, List.reverse_cons]
      exact (DtAll.reverse r).append (.one a)
mutual
theorem Dt.dp {K : PySem.W.Frag} : ∀ {d : PyData} {v : V}, Dt H v d → Dp K H v d
  | .none, _, h => by cases h; exact .non
  | .bool _, _, h => by cases h; exact .bl _
  | .int _, _, h => by cases h; exact .int _
  | .str _, _, h => by cases h; exact .str _
  | .list ds, _, h => by
    cases h with
    | lst e r => exact .lst (SqL.of e) (DtAll.dp r)
  | .tuple ds, _, h => by
    cases h with
    | tup e r => exact .tup (SqT.of e) (DtAll.dp r)
  | .dict _, _, h => by cases h
theorem DtAll.dp {K : PySem.W.Frag} : ∀ {ds : List PyData} {vs : List V}, DtAll H vs ds → DpAll K H vs ds
  | [], _, h => by cases h; exact .nil
  | d :: ds, _, h => by
    cases h with
    | cons a r => exact .cons (Dt.dp a) (DtAll.dp r)
end
end
end Xi

namespace Xi
open PySem PySem.Spec PyProof.Rows L2
/-! ## a def of the text by its name -/
structure Own (K : PySem.W.Frag) (mg : Str → Option Value) (x : Str) (st : Stmt) (ps : List Str) (f : Addr) (fd : FuncData) : Prop where
  F : Fun K x x st f fd
  g : mg x = some (.ref f)
  b : Binds K fd ps []
/-- a def that keeps its promise, by its name -/
def Cal (P : Program) (w : World) (K : PySem.W.Frag) (mg : Str → Option Value) (base : Heap) (CX : CXT) (k : Nat) (x : Str) (st : Stmt) (ps : List Str) (sp : Sp) : Prop :=
  ∃ f fd, Own K mg x st ps f fd ∧ Dok P w K mg base CX k f fd ps sp
section
variable {P : Program} {w : World} {K : PySem.W.Frag} {mg : Str → Option Value} {base : Heap} {CX : CXT} {k j : Nat} {f : Addr} {fd : FuncData} {ps ks N : List Str} {sp sp' : Sp} {x : Str} {st : Stmt}
theorem Cal.mono (c : Cal P w K mg base CX j x st ps sp) (h : j ≤ k) : Cal P w K mg base CX k x st ps sp := by
  obtain ⟨f, fd, o, d⟩ := c
  exact ⟨f, fd, o, d.mono h⟩
theorem Cal.imp (c : Cal P w K mg base CX k x st ps sp) (h : ∀ vs H Q E, sp' vs H Q E → sp vs H Q E) : Cal P w K mg base CX k x st ps sp' := by
  obtain ⟨f, fd, o, d⟩ := c
  exact ⟨f, fd, o, d.imp h⟩
/-- a def from which no exception goes out -/
theorem Dok.calm (F : Fun K x x st f fd) (S : FnScope N ps (defScope st)) (len : ∀ vs H Q E, sp vs H Q E → vs.length = ps.length)
    (hb : ∀ (cdv : Value) (A : Around) (outer : List Env) (s : Shared) (H : Hp) (vs : List V) (Q : VK) (E : XK), Rm k (A.deeper (envOfC x (defScope st) s.heap.objs.size f cdv)) → sp vs H Q E →
      ∃ t, PSs (cxOf CX0 P w K mg base N x (defScope st) f cdv A outer s H E).nox (defBody st) t ∧ t { nx := fun _ H' => Q .non H', rt := Q } (start N vs) H) : Dok P w K mg base CX0 (k + 1) f fd ps sp := by
  refine Dok.body F S len fun cdv A outer s H vs Q E hr h => ?_
  obtain ⟨t, a, b⟩ := hb cdv A outer s H vs Q E hr h
  exact ⟨t, a.nox, b⟩
theorem kbOf {g : List Value → List Value → List Value} {gV : List V → List V → List V} (F : Fun K x x st f fd)
    (h : ∀ (kV doc pm : Value) (an : Option Addr) (cdv ct : Value) (us ws : List Value), (g us ws).length = ps.length →
      bindArgs (PySem.W.fnOf x x (defArgs st) (defBody st) (defScope st) .none kV doc pm an cdv ct) ⟨us, ks.zip ws⟩ = pure (ps.zip (g us ws)))
    (rel : ∀ {vs : List V} {us : List Value} {zs : List V} {ws : List Value}, Vals vs us → Vals zs ws → Vals (gV vs zs) (g us ws)) : KBinds K fd ps ks g gV := by
  obtain ⟨oc, od, kV, doc, pm, an, cdv, ct, osl, rfl, lk, hcd⟩ := F.ex
  exact ⟨fun s us ws _ hl => .of_eq (h kV doc pm an cdv ct us ws hl), rel⟩
end
section
variable {X : Cx} {CX : CXT} {k : Nat} {ps : List Str} {sp : Sp} {E : XK} {x : Str} {st : Stmt} {p pos : Pos} {e : Expr} {es : List Expr} {t tk : TA} {kws : List Keyword} {ks : List Str}
  {g : List Value → List Value → List Value} {gV : List V → List V → List V}
theorem c_call (c : Cal X.prog X.w X.K X.mg X.base CX k x st ps sp) (hr : Rm k X.A) (hx : Passes CX X E) (ha : PA X (e :: es) t) (hg : Gl X x := by rfl)
    (hdb : (x == ("__debug__" : Str)) = false := by decide) (he : starEach (e :: es) X.env = (false, eval e X.env) :: starEach es X.env := by rfl) (hpl : (backTo pos (starEach es X.env)).any (·.1) = false := by rfl) :
    PE X (.Call (.Name x p) (e :: es) [] pos) (tCall sp [] E t) := by
  obtain ⟨f, fd, o, d⟩ := c
  exact d_call d hr hg o.g o.F.kp o.b .nil hx ha hdb he hpl
theorem c_call0 (c : Cal X.prog X.w X.K X.mg X.base CX k x st ps sp) (hr : Rm k X.A) (hx : Passes CX X E) (hg : Gl X x := by rfl) (hdb : (x == ("__debug__" : Str)) = false := by decide) :
    PE X (.Call (.Name x p) [] [] pos) (tCall sp [] E tNil) := by
  obtain ⟨f, fd, o, d⟩ := c
  exact d_call0 d hr hg o.g o.F.kp o.b .nil hx hdb
theorem c_callK (c : Cal X.prog X.w X.K X.mg X.base CX k x st ps sp) (hr : Rm k X.A) (hx : Passes CX X E) (ha : PA X (e :: es) t) (hkw : PK X kws tk)
    (h : ∀ (kV doc pm : Value) (an : Option Addr) (cdv ct : Value) (us ws : List Value), (g us ws).length = ps.length →
      bindArgs (PySem.W.fnOf x x (defArgs st) (defBody st) (defScope st) .none kV doc pm an cdv ct) ⟨us, ks.zip ws⟩ = pure (ps.zip (g us ws)))
    (rel : ∀ {vs : List V} {us : List Value} {zs : List V} {ws : List Value}, Vals vs us → Vals zs ws → Vals (gV vs zs) (g us ws)) (hg : Gl X x := by rfl)
    (hall : (backToKw pos (keywordEach kws X.env)).all (·.1.isSome) = true := by rfl) (hks : (backToKw pos (keywordEach kws X.env)).filterMap (·.1) = ks := by rfl)
    (hdb : (x == ("__debug__" : Str)) = false := by decide) (he : starEach (e :: es) X.env = (false, eval e X.env) :: starEach es X.env := by rfl)
    (hpl : ((backTo pos (starEach (e :: es) X.env)).any (·.1) || (backToKw pos (keywordEach kws X.env)).any (·.1.isNone)) = false := by rfl) :
    PE X (.Call (.Name x p) (e :: es) kws pos) (tCallK sp gV E t tk) := by
  obtain ⟨f, fd, o, d⟩ := c
  exact d_callK d hr hg o.g o.F.kp (kbOf o.F h rel) hx ha hkw hall hks hdb he hpl
theorem c_callN (c : Cal X.prog X.w X.K X.mg X.base CX k x st ps sp) (hr : Rm k X.A) (hx : Passes CX X E) (hkw : PK X kws tk)
    (h : ∀ (kV doc pm : Value) (an : Option Addr) (cdv ct : Value) (us ws : List Value), (g us ws).length = ps.length →
      bindArgs (PySem.W.fnOf x x (defArgs st) (defBody st) (defScope st) .none kV doc pm an cdv ct) ⟨us, ks.zip ws⟩ = pure (ps.zip (g us ws)))
    (rel : ∀ {vs : List V} {us : List Value} {zs : List V} {ws : List Value}, Vals vs us → Vals zs ws → Vals (gV vs zs) (g us ws)) (hg : Gl X x := by rfl)
    (hall : (backToKw pos (keywordEach kws X.env)).all (·.1.isSome) = true := by rfl) (hks : (backToKw pos (keywordEach kws X.env)).filterMap (·.1) = ks := by rfl)
    (hdb : (x == ("__debug__" : Str)) = false := by decide)
    (hpl : ((backTo pos (starEach [] X.env)).any (·.1) || (backToKw pos (keywordEach kws X.env)).any (·.1.isNone)) = false := by rfl) :
    PE X (.Call (.Name x p) [] kws pos) (tCallK sp gV E tNil tk) := by
  obtain ⟨f, fd, o, d⟩ := c
  exact d_callN d hr hg o.g o.F.kp (kbOf o.F h rel) hx hkw hall hks hdb hpl
/-- a whole number of the module's own -/
theorem c_const {i : Int} (h : ∃ t, X.mg x = some (.int i t)) (hg : Gl X x := by rfl) (hd : (x == ("__debug__" : Str)) = false := by decide) : PE X (.Name x p) (tC (.int i)) := by
  obtain ⟨t, h⟩ := h
  exact pe_glob (hd := hd) hg h ⟨_, rfl⟩
/-! ## a power of a great number -/
theorem op_powW : OpR X (binaryOp .Pow) (rI (fun i j => 0 ≤ j ∧ (Builtin.Int.intBits i : Int) * j ≤ 2 ^ 27) fun i j => .int (i ^ j.toNat)) :=
  opI fun _ _ _ _ _ _ _ hc q => pow_int hc.1 hc.2 q
end
theorem tyes {σ : L2.St} {H : Hp} {Q : Bool → Hp → Prop} (h : Q true H) : tYes σ H Q := h
section
variable {K : PySem.W.Frag} {a b : Addr} {xs ys : List V}
open RZ in
theorem walk_zipT {n : Nat} (hn : n = min xs.length ys.length) : Walk (ItzT K a b) n (fun H => SqT K H a xs ∧ SqT K H b ys) (YPair (fun i => xs[i]?) (fun i => ys[i]?)) := by
  subst hn
  constructor
  · intro i H hi q
    have h1 : i < xs.length := by omega
    have h2 : i < ys.length := by omega
    exact ⟨xs, ys, xs[i], ys[i], q.1, q.2, by simp [h1], by simp [h2]⟩
  · intro H q
    exact ⟨xs, ys, q.1, q.2, by omega⟩
  · intro i H v H' hi q y
    obtain ⟨T, x, z, h1, h2, h3, h4, h5⟩ := y
    exact ⟨T, x, z, h1, h2, h3, h4 xs q.1, h5 ys q.2⟩
end
end Xi
namespace Xi
open PySem PySem.Spec PyProof.Rows L2
/-! ## within a comprehension: the written part told outright -/
def rLenX (K : PySem.W.Frag) : List V → Hp → VK → Prop := fun vs H Q => ∃ p ys, vs = [.ref p] ∧ (SqL K H p ys ∨ SqT K H p ys) ∧ Q (.int ys.length) H
section
variable {X : Cx} {K : PySem.W.Frag}
theorem kc_len (e : X.K = K) : CallR X (.builtin "len") (rLenX K) := by
  subst e
  exact call_len_seq
theorem kc_isi (e : X.K = K) : CallR X (.builtin "isinstance") (rIsi K) := by
  subst e
  exact call_isi
theorem kc_isiT (e : X.K = K) : CallR X (.builtin "isinstance") (rIsiT K) := by
  subst e
  exact call_isiT
theorem kc_all (e : X.K = K) (hc : X.calm = true) : CallR X (.builtin "all") (rAll K) := by
  subst e
  exact cr_all hc
theorem k_ixL (e : X.K = K) : IxR X (rIxL K) := by
  subst e
  exact ix_list
theorem k_ixT (e : X.K = K) : IxR X (rIxT K) := by
  subst e
  exact ix_tup
theorem k_eqD (e : X.K = K) (hu : X.A.units + 64 < cLine) : OpR X (compareOp .Eq) (rEqD K) := by
  subst e
  exact op_eqD hu
theorem k_neD (e : X.K = K) (hu : X.A.units + 64 < cLine) : OpR X (compareOp .NotEq) (rNeD K) := by
  subst e
  exact op_neD hu
theorem k_inSeq (e : X.K = K) : OpR X (compareOp .In) (rIn K false) := by
  subst e
  exact op_in_seq
theorem k_niSeq (e : X.K = K) : OpR X (compareOp .NotIn) (rIn K true) := by
  subst e
  exact op_notIn_seq
theorem k_slL (e : X.K = K) : SlR X (rSlL K) := by
  subst e
  exact sl_list
end
end Xi
namespace Xi
open PySem PySem.Spec PyProof.Rows L2
/-! ## parts of a list -/
theorem cut_to {xs : List V} (k : Nat) : cutV xs none (some (k : Int)) = xs.take k := by
  unfold cutV
  rw [HT.sIx_nat, HT.sIx_none, List.drop_zero, Nat.sub_zero]
  rcases Nat.le_total k xs.length with h | h
  · rw [Nat.min_eq_left h]
  · rw [Nat.min_eq_right h, List.take_of_length_le h, List.take_of_length_le (Nat.le_refl _)]
theorem cut_from {xs : List V} (k : Nat) : cutV xs (some (k : Int)) none = xs.drop k := by
  unfold cutV
  rw [HT.sIx_nat, HT.sIx_none]
  rcases Nat.le_total k xs.length with h | h
  · rw [Nat.min_eq_left h]
    exact List.take_of_length_le (by rw [List.length_drop]; exact Nat.le_refl _)
  · rw [Nat.min_eq_right h, List.drop_of_length_le (Nat.le_refl _), List.drop_of_length_le h]
    exact List.take_nil
end Xi
namespace Xi
open PySem PySem.Spec PyProof.Rows L2
/-! ## data that may be compared -/
def shp : Nat → PyData → Prop
  | _, .none => True
  | _, .bool _ => True
  | _, .int _ => True
  | _, .str x => PyData.strOk x = true
  | 0, _ => False
  | n + 1, .list ds => ∀ d ∈ ds, shp n d
  | n + 1, .tuple ds => ∀ d ∈ ds, shp n d
  | _ + 1, .dict _ => False
theorem lay_all : ∀ {ds : List PyData}, (∀ d ∈ ds, d.canLay0 = true) → PyData.canLayAll0 ds = true
  | [], _ => rfl
  | d :: ds, h => by
    show (d.canLay0 && PyData.canLayAll0 ds) = true
    rw [h d List.mem_cons_self, lay_all fun x hx => h x (List.mem_cons_of_mem _ hx)]
    rfl
theorem deep_all {n : Nat} : ∀ {ds : List PyData}, (∀ d ∈ ds, d.depth ≤ n) → PyData.depthAll ds ≤ n
  | [], _ => Nat.zero_le _
  | d :: ds, h => by
    have h1 := h d List.mem_cons_self
    have h2 := deep_all (ds := ds) fun x hx => h x (List.mem_cons_of_mem _ hx)
    show max d.depth (PyData.depthAll ds) ≤ n
    omega
theorem shp_ok : ∀ {n : Nat} {d : PyData}, shp n d → d.canLay0 = true ∧ d.depth ≤ n + 1
  | _, .none, _ => ⟨rfl, by show 0 ≤ _; omega⟩
  | _, .bool _, _ => ⟨rfl, by show 0 ≤ _; omega⟩
  | _, .int _, _ => ⟨rfl, by show 0 ≤ _; omega⟩
  | 0, .str x, h => ⟨h, by show 0 ≤ _; omega⟩
  | _ + 1, .str x, h => ⟨h, by show 0 ≤ _; omega⟩
  | n + 1, .list ds, h => by
    have hh : ∀ d ∈ ds, shp n d := h
    refine ⟨lay_all fun d hd => (shp_ok (hh d hd)).1, ?_⟩
    have := deep_all (n := n + 1) fun d hd => (shp_ok (hh d hd)).2
    show PyData.depthAll ds + 1 ≤ _
    omega
  | n + 1, .tuple ds, h => by
    have hh : ∀ d ∈ ds, shp n d := h
    refine ⟨lay_all fun d hd => (shp_ok (hh d hd)).1, ?_⟩
    have := deep_all (n := n + 1) fun d hd => (shp_ok (hh d hd)).2
    show PyData.depthAll ds + 1 ≤ _
    omega
  | 0, .list _, h => h.elim
  | 0, .tuple _, h => h.elim
  | 0, .dict _, h => h.elim
  | _ + 1, .dict _, h => h.elim
theorem shaped_of {n : Nat} {d : PyData} (h : shp n d) (hn : n ≤ 60 := by decide) : SeqAt.shaped d = true := by
  have a := shp_ok h
  unfold SeqAt.shaped
  rw [a.1, decide_eq_true (show d.depth ≤ 64 by omega)]
  rfl
theorem shp_list {n : Nat} {ds : List PyData} (h : ∀ d ∈ ds, shp n d) : shp (n + 1) (.list ds) := h
theorem shp_tup {n : Nat} {ds : List PyData} (h : ∀ d ∈ ds, shp n d) : shp (n + 1) (.tuple ds) := h
section
variable {K : PySem.W.Frag} {x y : V} {H : Hp} {d : PyData} {n : Nat} {Q : VK}
theorem eqD (h1 : Dt H x d) (h2 : Dt H y d) (s : shp n d) (q : Q (.bl true) H) (hn : n ≤ 60 := by decide) : rEqD K x y H Q := by
  refine ⟨d, d, h1.dp, h2.dp, shaped_of s hn, shaped_of s hn, ?_⟩
  rw [SeqAt.eqv_refl d (shp_ok s).1]
  exact q
theorem neD (h1 : Dt H x d) (h2 : Dt H y d) (s : shp n d) (q : Q (.bl false) H) (hn : n ≤ 60 := by decide) : rNeD K x y H Q := by
  refine ⟨d, d, h1.dp, h2.dp, shaped_of s hn, shaped_of s hn, ?_⟩
  rw [SeqAt.eqv_refl d (shp_ok s).1]
  exact q
theorem dt_strs : ∀ (ws : List Str), DtAll H (ws.map V.str) (ws.map PyData.str)
  | [] => .nil
  | w :: ws => .cons (.str w) (dt_strs ws)
theorem dt_ints : ∀ (ns : List Int), DtAll H (ns.map V.int) (ns.map PyData.int)
  | [] => .nil
  | w :: ws => .cons (.int w) (dt_ints ws)
end
end Xi
namespace Xi
open PySem PySem.Spec PyProof.Rows L2
/-- data of at most n levels, no list too long -/
def dep : Nat → PyData → Prop
  | _, .none => True
  | _, .bool _ => True
  | _, .int _ => True
  | _, .str _ => True
  | 0, _ => False
  | n + 1, .list ds => ds.length ≤ 100000 ∧ ∀ d ∈ ds, dep n d
  | n + 1, .tuple ds => ds.length ≤ 100000 ∧ ∀ d ∈ ds, dep n d
  | _ + 1, .dict _ => False
theorem long_ok {n : Nat} (h : n ≤ 100000) : n < sizeLine := Nat.lt_of_le_of_lt h (by decide)
end Xi
namespace Xi
open PySem PySem.Spec PyProof.Rows L2
/-- what stands behind a statement, proved once -/
theorem with_nx {t : TS} {D : Ends} {σ : L2.St} {H : Hp} (W : L2.St → Hp → Prop) (h1 : ∀ σ H, W σ H → D.nx σ H) (h2 : (∀ σ H, W σ H → D.nx σ H) → t D σ H) : t D σ H := h2 h1
theorem rg_ints (n : Nat) : rgV 0 (n : Int) = ((List.range n).map (fun i : Nat => (i : Int))).map V.int := by
  unfold rgV
  rw [List.map_map, Int.sub_zero, Int.toNat_natCast]
  refine List.map_congr_left fun i _ => ?_
  show V.int (0 + (i : Int)) = V.int (i : Int)
  rw [Int.zero_add]
end Xi
namespace Xi
open PySem PySem.Spec PyProof.Rows L2
theorem ext_tup (l : Addr) (xs : Array Value) (n : Nat) (b : Addr) (ys : Array Value) (m : Nat) (dd : Option Addr) (sl : Array (Option Value)) (h0 : ¬(!xs.isEmpty && Builtin.List.listTooLong (xs.size + ys.size)) = true) (h1 : xs.size ≤ sizeLine) (h2 : xs.size + ys.size ≤ sizeLine + 1) :
    Meets (Builtin.«list.extend» ⟨[.ref l, .ref b], []⟩) (fun _ R s => s.heap.get? l = some { cls := .type "list", data := .seq xs n } ∧ s.heap.get? b = some { cls := .type "tuple", dict := dd, data := .seq ys m, slots := sl } ∧ R (.ok (.ret Value.none)) { s with heap := s.heap.update l (Obj.mapSeq fun x => x ++ ys), toks := s.toks }) :=
  .of_wp fun prog w A R s h => by
    obtain ⟨hp, g, d, tk, os⟩ := s
    obtain ⟨hl, hb, h⟩ := h
    have e1 := AutoSeq1.idx_int
    have e2 := AutoSeq1.sub_tuple_tuple
    have e3 := AutoSeq1.sub_list_list
    have e4 := AutoSeq1.sub_tuple_list
    have e5 := AutoSeq1.sub_list_tuple
    have hz' : (xs ++ ys).size ≤ sizeLine + 1 := by
      rw [Array.size_append]
      exact h2
    wp_walk using (wpAny_updateSeq hl rfl (hz := h1) (_hz' := hz')), AutoSeq1.wpAny_loadPart' hl, AutoSeq1.wpAny_loadPart' hb
    exact ⟨_, rfl, h⟩
section
variable {X : Cx}
def rExtendT (K : PySem.W.Frag) : V → List V → Hp → VK → Prop := fun x vs H Q => ∃ l b xs zs, x = .ref l ∧ vs = [.ref b] ∧ H l = some (.lst xs) ∧ SqT K H b zs ∧ xs.length + zs.length ≤ sizeLine ∧ Q .non (upd H l (.lst (xs ++ zs)))
theorem mt_extendT : MtM X "list.extend" (rExtendT X.K) := by
  intro pins s σ H x vs v us Q I rx rv h
  obtain ⟨l, b, xs, zs, rfl, rfl, hH, hB, hz, q⟩ := h
  cases rx
  obtain ⟨u, rfl, ru⟩ := rv.one
  cases ru
  obtain ⟨z, its, n, r, hl, e⟩ := I.lstM hH
  obtain ⟨ws, r2, ⟨o, h1, h2, m, h3⟩, hz2⟩ := I.tuple hB
  obtain ⟨oc, od, dt, sl⟩ := o
  simp only at h2 h3
  subst h2 h3
  have hl2 := r2.length
  have hsz : its.toArray.size + ws.toArray.size ≤ sizeLine := by
    rw [List.size_toArray, List.size_toArray]
    omega
  have short : ¬ (!its.toArray.isEmpty && Builtin.List.listTooLong (its.toArray.size + ws.toArray.size)) = true := by
    rw [notLongL hsz, Bool.and_false]
    exact Bool.false_ne_true
  refine call_meets F.slot_list_extend ⟨_, e, rfl⟩ F.entry_list_extend (F.args_list_extend_2 _ _) (ext_tup l its.toArray n b ws.toArray m od sl short (by rw [List.size_toArray]; omega) (by omega)) ⟨e, h1, ?_⟩
  refine ⟨.non, _, I.lset (its' := its ++ ws) hH e (by simp) (r.append r2) ?_, rfl, q⟩
  rw [List.length_append]
  omega
end
end Xi

namespace Xi
open PySem PySem.Spec PyProof.Rows L2
/-! ## a datum written out -/
def rRepr (K : PySem.W.Frag) : List V → Hp → VK → Prop := fun xs H Q => ∃ (a : Addr) (d : PyData), xs = [.ref a] ∧ Dp K H (.ref a) d ∧ d.showable = true ∧ SeqAt.shaped d = true ∧ d.shown.length ≤ sizeLine ∧ Q (.str d.shown) H
section
variable {X : Cx} {K : PySem.W.Frag} {k : Nat}
theorem kc_repr (e : X.K = K) (hr : Rm k X.A) : CallR X (.builtin "repr") (rRepr K) := by
  subst e
  intro pins s σ H xs us Q I r h
  obtain ⟨a, d, rfl, hd, h1, h2, h3, q⟩ := h
  obtain ⟨u, rfl, ru⟩ : ∃ u, us = [u] ∧ RelV (.ref a) u := by
    cases r with
    | cons x y =>
      cases y
      exact ⟨_, rfl, x⟩
  cases (show u = Value.ref a from ru)
  obtain ⟨as, rd⟩ := Dp.reads I d _ _ hd rfl
  have nd := PyData.hasDict_of_canLay d (SeqAt.canLay_of_shaped h2)
  have dp := SeqAt.depth_of_shaped h2
  have un := hr.r.un
  refine repr_of_reads' rd h1 (fun z => by rw [nd] at z; cases z) hr.g (by omega) (fun b o e => e) (fun h' u tk keep => ?_) h3
  exact ⟨.str d.shown, H, I.kept (t' := tk) keep, ⟨u, rfl⟩, q⟩
/-! ## a set of whole numbers -/
def rSetI (K : PySem.W.Frag) : List V → Hp → VK → Prop := fun xs H Q => ∃ (l : Addr) (ns : List Int), xs = [.ref l] ∧ SqL K H l (ns.map V.int) ∧ ns.length ≤ 4000 ∧ ∀ p S n, H p = none → (∀ z, S z = decide (z ∈ ns)) → Q (.ref p) (upd H p (.set S n))
theorem kc_setI (e : X.K = K) (hc : X.calm = true) : CallR X (.type "set") (rSetI K) := by
  subst e
  intro pins s σ H xs us Q I r h
  obtain ⟨l, ns, rfl, hl, hz, q⟩ := h
  obtain ⟨u, rfl, ru⟩ : ∃ u, us = [u] ∧ RelV (.ref l) u := by
    cases r with
    | cons x y =>
      cases y
      exact ⟨_, rfl, x⟩
  cases (show u = Value.ref l from ru)
  obtain ⟨its, r, pl, _⟩ := I.list hl
  have hlen : its.toArray.size = ns.length := by rw [List.size_toArray, ← r.length, List.length_map]
  refine call_set_list (I.ok.hd hc) pl.isList (by simpa using RZ.intsAre_vals r) (by rw [hlen]; unfold scanBound; omega) fun h' tk hS hk => ?_
  have hf : H s.heap.objs.size = none := I.hok.fresh (Nat.le_refl _)
  refine ⟨.ref s.heap.objs.size, _, I.laid (t' := tk) (fun b o e => hk b o (Heap.lt_size e) e) (Nat.le_refl _) (show ObjOk X.prog X.w (upd H s.heap.objs.size (.set _ _)) h' s.heap.objs.size (.set _ _) from hS), rfl, q _ _ _ hf fun z => ?_⟩
  rw [firstMet_any, hlen]
  have e1 : (List.range ns.length).map (fun i => ns.getD i 0) = ns := by
    refine List.ext_getElem (by simp) fun i h1 h2 => ?_
    simp [List.getD_eq_getElem?_getD, List.getElem?_eq_getElem h2]
  rw [e1]
  by_cases hm : z ∈ ns
  · rw [decide_eq_true hm]
    exact List.any_eq_true.mpr ⟨z, hm, by simp⟩
  · rw [decide_eq_false hm]
    exact List.any_eq_false.mpr fun y hy => by
      intro e
      have : y = z := by simpa using e
      exact hm (this ▸ hy)
theorem kc_min (e : X.K = K) (hc : X.calm = true) : CallR X (.builtin "min") (rMin K) := by
  subst e
  exact cr_min hc
theorem kc_max (e : X.K = K) (hc : X.calm = true) : CallR X (.builtin "max") (rMax K) := by
  subst e
  exact cr_max hc
def rInI : R2 := fun x y H Q => ∃ (z : Int) (a : Addr) (S : Int → Bool) (n : Nat), x = .int z ∧ y = .ref a ∧ H a = some (.set S n) ∧ Q (.bl (S z)) H
theorem op_inI : OpR X (compareOp .In) rInI := by
  intro pins s σ H x y v u Q I rx ry h
  obtain ⟨z, a, S, n, rfl, rfl, ha, q⟩ := h
  obtain ⟨t, rfl⟩ := rx
  cases (show u = Value.ref a from ry)
  have hS : s.heap.SetOf (intKind X.prog X.w) a S n := I.hok a _ ha
  exact wpAny_inSet_of (knd := intKind X.prog X.w) (k := z) (by simp [intKind, Value.isInt]) rfl hS ⟨.bl (S z), H, I.tok _, rfl, q⟩
end
end Xi
namespace Xi
open PySem PySem.Spec PyProof.Rows L2
/-! ## how long a written datum is at most -/
mutual
def wt : PyData → Nat
  | .none => 4
  | .bool _ => 5
  | .int _ => 40
  | .str _ => 0
  | .list ds => wtAll ds + 2
  | .tuple ds => wtAll ds + 4
  | .dict _ => 0
def wtAll : List PyData → Nat
  | [] => 0
  | d :: ds => wt d + 2 + wtAll ds
end
/-- data of truths and whole numbers of at most 31 figures -/
def prt : Nat → PyData → Prop
  | _, .none => True
  | _, .bool _ => True
  | _, .int i => i.natAbs < 10 ^ 31
  | _, .str _ => False
  | 0, _ => False
  | n + 1, .list ds => ∀ d ∈ ds, prt n d
  | n + 1, .tuple ds => ∀ d ∈ ds, prt n d
  | _ + 1, .dict _ => False
theorem prt_shp : ∀ {n : Nat} {d : PyData}, prt n d → shp n d
  | _, .none, _ => (by unfold shp; trivial)
  | _, .bool _, _ => (by unfold shp; trivial)
  | _, .int _, _ => (by unfold shp; trivial)
  | 0, .str _, h => h.elim
  | _ + 1, .str _, h => h.elim
  | n + 1, .list ds, h => fun d hd => prt_shp ((show ∀ d ∈ ds, prt n d from h) d hd)
  | n + 1, .tuple ds, h => fun d hd => prt_shp ((show ∀ d ∈ ds, prt n d from h) d hd)
  | 0, .list _, h => h.elim
  | 0, .tuple _, h => h.elim
  | 0, .dict _, h => h.elim
  | _ + 1, .dict _, h => h.elim
theorem strLen (x y : Str) : (x ++ y).length = x.length + y.length := Array.size_append ..
theorem textFrom_le : ∀ (ts : List Str) (k : Nat) (acc : Str), (textFrom k acc ts).length ≤ acc.length + (ts.map fun t => t.length + 2).sum
  | [], _, acc => by
    show acc.length ≤ acc.length + 0
    omega
  | t :: r, k, acc => by
    have ih := textFrom_le r (k + 1) (acc ++ ((if k > 0 then ", " else "" : String) : Str) ++ t)
    have e : ((if k > 0 then ", " else "" : String) : Str).length ≤ 2 := by
      split
      · exact Nat.le_of_eq (by decide +kernel)
      · exact Nat.le_trans (Nat.le_of_eq (by decide +kernel : (("" : String) : Str).length = 0)) (by decide)
    rw [strLen, strLen] at ih
    show (textFrom (k + 1) (acc ++ ((if k > 0 then ", " else "" : String) : Str) ++ t) r).length ≤ acc.length + ((t.length + 2) + (r.map fun t => t.length + 2).sum)
    omega
theorem join_le : ∀ ts : List Str, (Str.join ", " ts).length ≤ (ts.map fun t => t.length + 2).sum
  | [] => Nat.le_of_eq (by decide +kernel)
  | [x] => by
    show x.length ≤ (x.length + 2) + 0
    omega
  | x :: y :: r => by
    have ih := join_le (y :: r)
    have e2 : ((", " : String) : Str).length = 2 := by decide +kernel
    show (x ++ ((", " : String) : Str) ++ Str.join ", " (y :: r)).length ≤ (x.length + 2) + ((y :: r).map fun t => t.length + 2).sum
    rw [strLen, strLen]
    omega
mutual
theorem shown_le : ∀ {n : Nat} {d : PyData}, prt n d → d.showable = true ∧ d.shown.length ≤ wt d
  | _, .none, _ => ⟨rfl, Nat.le_of_eq (by decide +kernel)⟩
  | _, .bool b, _ => ⟨rfl, by cases b <;> decide +kernel⟩
  | n, .int i, h => by
    have hi : i.natAbs < 10 ^ 31 := by cases n <;> exact h
    have h2 : (10 : Nat) ^ 31 < 2 ^ 110 := by decide
    have l := int_text_length_le10 (a := i) (k := 31) (by decide) hi
    refine ⟨?_, ?_⟩
    · show decide (i.natAbs.log2 < 1920) = true
      exact decide_eq_true (Nat.lt_trans (PySem.Flt.log2_lt_of (k := 110) (by decide) (Nat.lt_trans hi h2)) (by decide))
    · have e : ((toString i : String) : Str).length ≤ 32 := by
        show (Str.ofString (toString i)).length ≤ 32
        rw [PySem.ofString_length]
        exact l
      show ((toString i : String) : Str).length ≤ 40
      omega
  | 0, .str _, h => h.elim
  | _ + 1, .str _, h => h.elim
  | n + 1, .list ds, h => by
    obtain ⟨a, b⟩ := shownAll_le (n := n) (ds := ds) h
    refine ⟨a, ?_⟩
    have t := textFrom_le (PyData.shownAll ds) 0 ("[" : Str)
    have e1 : ("[" : Str).length = 1 := by decide +kernel
    have e2 : ("]" : Str).length = 1 := by decide +kernel
    show (textFrom 0 ("[" : Str) (PyData.shownAll ds) ++ ("]" : Str)).length ≤ wtAll ds + 2
    rw [strLen]
    omega
  | n + 1, .tuple ds, h => by
    obtain ⟨a, b⟩ := shownAll_le (n := n) (ds := ds) h
    refine ⟨a, ?_⟩
    have t := join_le (PyData.shownAll ds)
    have e1 : ("(" : Str).length = 1 := by decide +kernel
    have e2 : ((if (PyData.shownAll ds).length == 1 then ",)" else ")" : String) : Str).length ≤ 2 := by
      split
      · exact Nat.le_of_eq (by decide +kernel)
      · exact Nat.le_trans (Nat.le_of_eq (by decide +kernel : ((")" : String) : Str).length = 1)) (by decide)
    show (("(" : Str) ++ Str.join ", " (PyData.shownAll ds) ++ ((if (PyData.shownAll ds).length == 1 then ",)" else ")" : String) : Str)).length ≤ wtAll ds + 4
    rw [strLen, strLen]
    omega
  | 0, .list _, h => h.elim
  | 0, .tuple _, h => h.elim
  | 0, .dict _, h => h.elim
  | _ + 1, .dict _, h => h.elim
theorem shownAll_le : ∀ {n : Nat} {ds : List PyData}, (∀ d ∈ ds, prt n d) → PyData.showableAll ds = true ∧ ((PyData.shownAll ds).map fun t => t.length + 2).sum ≤ wtAll ds
  | _, [], _ => ⟨rfl, Nat.le_refl _⟩
  | n, d :: ds, h => by
    obtain ⟨a, b⟩ := shown_le (h d List.mem_cons_self)
    obtain ⟨a2, b2⟩ := shownAll_le (ds := ds) fun x hx => h x (List.mem_cons_of_mem _ hx)
    refine ⟨?_, ?_⟩
    · show (d.showable && PyData.showableAll ds) = true
      rw [a, a2]
      rfl
    · show (d.shown.length + 2) + ((PyData.shownAll ds).map fun t => t.length + 2).sum ≤ wt d + 2 + wtAll ds
      omega
end
theorem wtAll_le {m : Nat} : ∀ {ds : List PyData}, (∀ d ∈ ds, wt d ≤ m) → wtAll ds ≤ ds.length * (m + 2)
  | [], _ => Nat.zero_le _
  | d :: ds, h => by
    have a := h d List.mem_cons_self
    have b := wtAll_le (ds := ds) fun x hx => h x (List.mem_cons_of_mem _ hx)
    show wt d + 2 + wtAll ds ≤ (ds.length + 1) * (m + 2)
    rw [Nat.add_mul, Nat.one_mul]
    omega
section
variable {K : PySem.W.Frag} {a : Addr} {H : Hp} {d : PyData} {n : Nat} {Q : VK}
theorem reprD (h : Dt H (.ref a) d) (s : prt n d) (l : wt d ≤ 10000000) (q : Q (.str d.shown) H) (hn : n ≤ 60 := by decide) : rRepr K [.ref a] H Q := by
  obtain ⟨x, y⟩ := shown_le s
  refine ⟨a, d, rfl, h.dp, x, shaped_of (prt_shp s) hn, ?_, q⟩
  have e : sizeLine = 16777216 := by rw [sizeLine_eq]
  rw [e]
  omega
theorem prt_list {ds : List PyData} (h : ∀ d ∈ ds, prt n d) : prt (n + 1) (.list ds) := h
theorem prt_tup {ds : List PyData} (h : ∀ d ∈ ds, prt n d) : prt (n + 1) (.tuple ds) := h
end
end Xi

namespace Xi
open PySem PySem.Spec PySem.Calls PyProof.Rows L2
/-! ## except (A, B, ..) as e -/
section
variable {M : Model} {A : Around} {E : Value → Shared → Prop} {s : Shared}
theorem forIn_skip {body : Value → PUnit → Sem (ForInStep PUnit)} : ∀ {l : List Value} {Q : PUnit → Shared → Prop}, (∀ c ∈ l, ∀ {Q : ForInStep PUnit → Shared → Prop}, Q (.yield ⟨⟩) s → wpAny M A (body c ⟨⟩) Q E s) → Q ⟨⟩ s → wpAny M A (forIn l ⟨⟩ body) Q E s
  | [], Q, _, q => by
    rw [List.forIn_nil]
    exact wpAny_pure q
  | c :: l, Q, h, q => by
    rw [List.forIn_cons]
    exact wpAny_bind (h c List.mem_cons_self (forIn_skip (fun d hd => h d (List.mem_cons_of_mem _ hd)) q))
theorem forIn_any {β : Type} {b0 b1 : β} {f : Value → Bool} {body : Value → β → Sem (ForInStep β)} : ∀ {l : List Value} {Q : β → Shared → Prop},
    (∀ c ∈ l, ∀ {Q : ForInStep β → Shared → Prop}, Q (if f c then .done b1 else .yield b0) s → wpAny M A (body c b0) Q E s) → Q (if l.any f then b1 else b0) s → wpAny M A (forIn l b0 body) Q E s
  | [], Q, _, q => by
    rw [List.forIn_nil]
    exact wpAny_pure q
  | c :: l, Q, h, q => by
    rw [List.forIn_cons]
    refine wpAny_bind (h c List.mem_cons_self ?_)
    rw [List.any_cons] at q
    cases e : f c with
    | true =>
      rw [e] at q
      exact wpAny_pure q
    | false =>
      rw [e] at q
      exact forIn_any (fun d hd => h d (List.mem_cons_of_mem _ hd)) q
end
theorem exmAny_each {K : PySem.W.Frag} {cls : Value} : ∀ {cs : List Value} {b : Bool}, PySem.W.exmAny K cls cs = some b → (∀ c ∈ cs, PySem.W.exmOne K cls c = some ((PySem.W.exmOne K cls c).getD false)) ∧ b = cs.any fun c => (PySem.W.exmOne K cls c).getD false
  | [], b, h => ⟨fun c hc => (by cases hc), (Option.some.inj h).symm⟩
  | c :: r, b, h => by
    obtain ⟨b1, d1, h1, h2, rfl⟩ := PySem.W.exmAny_cons h
    obtain ⟨i1, i2⟩ := exmAny_each h2
    refine ⟨fun d hd => ?_, ?_⟩
    · rcases List.mem_cons.mp hd with rfl | hd
      · rw [h1]
        rfl
      · exact i1 d hd
    · rw [List.any_cons, h1, ← i2]
      rfl
open PySem.W in
theorem exm_all {M : Model} {K : PySem.W.Frag} {cs : List Value} {cls : Value} {tp e : Addr} {b : Bool} {h : Heap} (X : K.In h) (LT : Looks M h (typeOf (.ref e)) cls) (hp : h.get? tp = some { cls := .type "tuple", data := .seq cs.toArray }) (hx : exmAny K cls cs = some b) :
    Looks M h (excMatches (.ref e) (.ref tp)) b := by
  intro A Q E s k₀ q
  obtain ⟨hh, g, d, tk, os⟩ := s
  have k : ∀ b o, h.get? b = some o → hh.get? b = some o := k₀
  have LT0 : Looks M h (isInstance (.ref tp) (.type "tuple")) true := ((Looks.ld hp).andThen .now).andThen (Looks.of_pure isSubtype_tuple_tuple)
  obtain ⟨each, eb⟩ := exmAny_each hx
  have LT := LT.keeps k
  have LT0 := LT0.keeps k
  have hp' := k _ _ hp
  unfold excMatches
  refine wpAny_bind (LT0.at ?_)
  dsimp only
  rw [if_pos rfl]
  first
    | refine wpAny_bind (wpAny_seqItems hp' rfl ?_)
    | refine wpAny_bind (wpAny_bind (wpAny_seqItems hp' rfl (wpAny_pure ?_)))
  dsimp only [Option.getD_some, Option.getD]
  refine wpAny_bind (wpAny_pure ?_)
  refine wpAny_bind (forIn_skip (fun c hc Q q => ?_) ?_)
  · obtain ⟨e1, S1⟩ := exm_cls (M := M) X (each c hc)
    have e1 := e1.keeps k
    refine wpAny_bind (e1.at ?_)
    simp only [Bool.not_true, Bool.false_eq_true, if_false]
    exact wpAny_pure q
  refine wpAny_bind (LT.at ?_)
  refine wpAny_bind (forIn_any (b1 := (some true, ())) (f := fun c => (exmOne K cls c).getD false) (fun c hc Q q => ?_) ?_)
  · obtain ⟨e1, S1⟩ := exm_cls (M := M) X (each c hc)
    have S1 := S1.keeps k
    refine wpAny_bind (S1.at ?_)
    cases e : (exmOne K cls c).getD false with
    | true =>
      rw [if_pos rfl]
      rw [e, if_pos rfl] at q
      exact wpAny_pure q
    | false =>
      rw [if_neg Bool.false_ne_true]
      rw [e, if_neg Bool.false_ne_true] at q
      exact wpAny_pure q
  rw [← eb]
  cases b with
  | true =>
    rw [if_pos rfl]
    exact wpAny_pure q
  | false =>
    rw [if_neg Bool.false_ne_true]
    exact wpAny_pure q
/-- the names in the brackets of an except clause -/
inductive NamesL (X : Cx) : List Expr → List Value → Prop
  | nil : NamesL X [] []
  | cons {x : Str} {c : Value} {p : Pos} {es : List Expr} {cs : List Value} (hc : Names X x c) (r : NamesL X es cs) : NamesL X (.Name x p :: es) (c :: cs)
theorem NamesL.mark {X : Cx} {a : Addr} {pn : List (Addr × Obj)} {es : List Expr} {cs : List Value} (h : NamesL X es cs) : NamesL (X.suite a pn) es cs := by
  induction h with
  | nil => exact .nil
  | cons y r ih => exact .cons y ih
/-- an exception of the class cls that was caught, at a -/
def CaO (cls : Value) (a : Addr) : HO := .ext fun h => ∃ (oe : Obj) (vs : Array Value), h.get? a = some oe ∧ oe.cls = cls ∧ oe.dict = none ∧ oe.data = .fields vs
theorem caO_ok {P : Program} {w : World} {H : Hp} {h : Heap} {a : Addr} {cls : Value} {oe : Obj} {vs : Array Value} (e : h.get? a = some oe) (z : Zc cls none oe) (d : oe.data = .fields vs) : ObjOk P w H h a (CaO cls a) :=
  ⟨⟨oe, vs, e, z.1, z.2, d⟩, ⟨oe, e⟩, fun _ _ ⟨u, v, q, r⟩ k => ⟨u, v, k u q, r⟩⟩
section
variable {X : Cx} {pins : List (Addr × Obj)} {σ : L2.St} {H : Hp} {s : Shared} {a : Addr} {o : HO}
theorem names_run {pos : Pos} {E : Value → Shared → Prop} (I : Inv X pins σ H s) : ∀ {es : List Expr} {cs : List Value} {Q : List Value → Shared → Prop}, NamesL X es cs → Q cs s → wpAny (model X.prog X.w) X.A (spliced (backTo pos (starEach es X.env))) Q E s
  | _, _, _, .nil, q => wpAny_items_nil q
  | _, _, _, .cons (c := c) ⟨g, d, y⟩ r, q => by
    refine wpAny_items_cons ?_
    rcases y with y | ⟨y, v, nn⟩
    · exact ld_glob I g y (names_run I r q) d
    · exact ld_blt I g y v (names_run I r q) nn d
/-- an object that was made since the entry may be looked after -/
theorem track (I : Inv X pins σ H s) (n : H a = none) (old : X.s_0.heap.get? a = none) (nl : a ≠ X.env.locals) (nc : ∀ x c, X.env.cells.lookup x = some c → c ≠ a) (np : ∀ p ∈ X.pn ++ pins, p.1 ≠ a)
    (new : ObjOk X.prog X.w (upd H a o) s.heap a o) : Inv X pins σ (upd H a o) s where
  ok := I.ok
  os := I.os
  bare := I.bare
  base := by
    refine ⟨I.base.keep, I.base.slot, fun b u e z w => ?_, I.base.there, fun b xs e => ?_, fun b u xs e => ?_, fun b ps e => ?_⟩
    · rw [upd_ne (fun q => by rw [q, old] at e; cases e)]
      exact I.base.free b u e z w
    · rw [upd_ne (ne_of_none (I.base.tups b xs e) n)]
      exact I.base.tups b xs e
    · rw [upd_ne (ne_of_none (I.base.frzs b u xs e) n)]
      exact I.base.frzs b u xs e
    · obtain ⟨m, z⟩ := I.base.tbls b ps e
      exact ⟨m, by rw [upd_ne (ne_of_none z n)]; exact z⟩
  loc := I.loc
  cell := I.cell
  free := by
    rw [upd_ne nl.symm]
    exact I.free
  freeC := fun x c e => by
    rw [upd_ne (nc x c e)]
    exact I.freeC x c e
  pin := fun p hp => by
    obtain ⟨x1, x2, x3⟩ := I.pin p hp
    exact ⟨x1, by rw [upd_ne (np p hp)]; exact x2, x3⟩
  hok := HOk.laidN I.hok (fun _ _ z => z) n new
  len := I.len
end
theorem flies {B : Heap} {l : List Env} {e : Addr} {Z : Obj → Prop} {h h' : Heap} (f : HandSPX.FlyingZ B l e Z h) (k : ∀ b o, h.get? b = some o → h'.get? b = some o) : HandSPX.FlyingZ B l e Z h' := by
  obtain ⟨f1, f2, f3, oe, ws, T, oT, ts, x1, x2, x3, x4, x5, x6, x7, x8⟩ := f
  exact ⟨fun b o q => k b o (f1 b o q), f2, f3.of_keeps fun b o q _ => ⟨o, k b o q, rfl⟩, oe, ws, T, oT, ts, k _ _ x1, x2, x3, x4, x5, x6, k _ _ x7, x8⟩
/-- what 'except (A, B, ..) as n' wishes of an exception; behind its suite the exception is looked after -/
def wIn (K : PySem.W.Frag) (cs : List Value) (i : Nat) (ts : Addr → Value → Option Addr → TS) (Wout : WX) (D : Ends) : WX := fun cls d σ H =>
  ∃ b, PySem.W.exmAny K cls cs = some b ∧
    (b = true → d = none ∧ ∀ a, H a = none → ts a cls d { nx := fun σ' H' => D.nx (σ'.set i none) (upd H' a (CaO cls a)), rt := fun _ _ => False, bk := fun _ _ => False, ct := fun _ _ => False } (σ.set i (some (.ref a))) H) ∧
    (b = false → Wout cls d σ H)
section
variable {X : Cx} {n : Str} {i kk : Nat} {es : List Expr} {cs : List Value} {body suite : List Stmt} {b₀ : Stmt} {tpos pos pos' : Pos} {tb : WX → TS} {ts : Addr → Value → Option Addr → TS} {Wout : WX}
theorem ps_try_in (e1 : X.stack = X.env :: X.outer) (e2 : X.env.frame = some X.env.locals) (e3 : X.ex = []) (nd : X.N.Nodup) (ni : X.N[i]? = some n) (nk : X.env.kindOf n = some .local) (hc : NamesL X es cs) (lc : cs.length ≤ sizeLine) (tk : Takes X Wout)
    (B1 : ∀ (W : WX) (pn : List (Addr × Obj)) (xe : Value → Shared → Prop), Takes (X.tr pn xe) W → PSs (X.tr pn xe) body (tb W))
    (B2 : ∀ (a : Addr) (oe : Obj) (cls : Value) (d : Option Addr) (pn : List (Addr × Obj)), Zc cls d oe → (∃ vs, oe.data = .fields vs) → PSs (X.suite a ((a, oe) :: pn)) (b₀ :: suite) (ts a cls d)) :
    PS X (.Try body [.ExceptHandler (some (.Tuple es kk tpos)) (some n) (b₀ :: suite) pos'] [] [] pos) (fun D σ H => tb (wIn X.K cs i ts Wout D) D σ H) := by
  constructor
  intro pins s σ H D I0 want
  have ok := I0.ok
  have fr : X.A.frames = some (X.env :: X.outer) := by
    rw [ok.frames, e1]
  refine wpAny_Try_except (wpAny_mono ((B1 (wIn X.K cs i ts Wout D) (X.pn ++ pins) _ (fun u s' air => ?_)).run [] s σ H D (I0.toTry _) want) (fun f s1 done => ?_) (fun _ _ z => z))
  · obtain ⟨a, B, sI, pins', σ', H', cls, d, rfl, J', nb, up, sky, na, os, ag, b, x1, yes, no⟩ := air
    have J : Inv X pins σ' H' sI := J'.ofTry ok
    rw [show (X.tr (X.pn ++ pins) _).stack = X.env :: X.outer from e1] at sky
    refine Sky.land Zc.steady fr e2 sky fun h3 g3 u3 => ?_
    have J3 : Inv X pins σ' H' { s' with heap := h3 } := J.landed nb g3.1 (up.trans u3) os ag
    obtain ⟨oe, vs, T, oT, us, q1, q2, q3, q4, q5, q6, q7, q8, q9⟩ := id g3.2.2.2
    have apart : a ∉ frs (X.env :: X.outer) := fun hm => by
      obtain ⟨_, u, eu, hu⟩ := g3.2.2.1.mem hm
      rw [q1] at eu
      cases eu
      exact hu _ q3
    have aL : a ≠ X.env.locals := fun z => apart (List.mem_filterMap.mpr ⟨X.env, List.mem_cons_self, by rw [e2, z]⟩)
    have aF : a ∉ X.fs := fun hm => by
      obtain ⟨v, hv, q⟩ := List.mem_filterMap.mp hm
      exact apart (List.mem_filterMap.mpr ⟨v, List.mem_cons_of_mem _ hv, q⟩)
    -- what is in the brackets
    refine wpAny_handleBy_cons (codeAny_handlers_test ?_) (fun q => by cases q)
    refine wpAny_Tuple (names_run (X := X.suite a ((a, oe) :: (X.pn ++ pins))) (J3.suite q1 q3 na aL aF) (es := es) (cs := cs) ?_ ⟨lc, ?_⟩)
    · exact hc.mark
    have grow : ∀ b o, h3.get? b = some o → (h3.push { cls := .type "tuple", data := .seq cs.toArray }).get? b = some o := fun _ _ z => Heap.get?_push_of_some _ z
    have tup : (h3.push { cls := .type "tuple", data := .seq cs.toArray }).get? h3.objs.size = some { cls := .type "tuple", data := .seq cs.toArray } := Heap.get?_push_size h3 rfl
    have LT : PySem.W.Looks (model X.prog X.w) (h3.push { cls := .type "tuple", data := .seq cs.toArray }) (typeOf (.ref a)) cls := fun A Q E s k q => wpAny_typeOf_ref (k _ _ (grow _ _ q1)) (by rw [q2.1]; exact q)
    refine (exm_all (M := model X.prog X.w) (J3.kIn.keeps grow) LT tup x1).here ?_
    have f4 := flies g3 grow
    have u4 : sI.heap.UpToSlots (h3.push { cls := .type "tuple", data := .seq cs.toArray }) := (up.trans u3).trans (Heap.UpToSlots.of_keeps grow)
    generalize h3.push { cls := .type "tuple", data := .seq cs.toArray } = h4 at f4 u4
    cases b with
    | true =>
      obtain ⟨hd, yes⟩ := yes rfl
      subst hd
      have nb2 : ∀ b o, sI.heap.get? b = some o → b ∉ frs (X.env :: X.outer) → B.get? b = some o := by
        rw [← e1]
        exact nb
      have aB : B.get? a = none := g3.2.1
      have old : X.s_0.heap.get? a = none := by
        cases z : X.s_0.heap.get? a with
        | none => rfl
        | some o =>
          obtain ⟨u, hu⟩ := J.base.there a o z (by rw [e3]; exact fun q => nomatch q)
          have := nb2 a u hu apart
          rw [aB] at this
          cases this
      have np : ∀ p ∈ X.pn ++ pins, p.1 ≠ a := fun p hp z => by
        obtain ⟨y1, _, y3, y4, _⟩ := J.pin p hp
        have := nb2 p.1 _ y1 (fun hm => by
          obtain ⟨v, hv, q⟩ := List.mem_filterMap.mp hm
          rcases List.mem_cons.mp hv with rfl | hv
          · rw [e2] at q
            exact y3 (Option.some.inj q).symm
          · exact y4 (List.mem_filterMap.mpr ⟨v, hv, q⟩))
        rw [z, aB] at this
        cases this
      refine codeAny_handlers_suite_as (HandSPX.lands_againZ f4 fun h5 f5 u5 => ?_)
      have J5 : Inv X pins σ' H' { s' with heap := h5 } := J.landed nb f5.1 (u4.trans u5) os ag
      obtain ⟨oe5, vs5, _, _, _, p1, p2, p3, _⟩ := id f5.2.2.2
      refine store_ok (X := X.suite a ((a, oe5) :: (X.pn ++ pins))) (v := .ref a) (J5.suite p1 p3 na aL aF) nd ni (.inl nk) rfl (fun s6 J6 => ?_) (.inr nk)
      refine wpAny_mono ((B2 a oe5 cls none (X.pn ++ pins) p2 ⟨_, p3⟩).run [] s6 _ H' _ J6 (yes a na)) (fun f s7 fin => ?_) (fun _ _ z => z.elim)
      cases f with
      | next =>
        obtain ⟨σ7, H7, J7, k7⟩ := fin
        refine gone_ok (X := X.suite a ((a, oe5) :: (X.pn ++ pins))) J7 nd ni nk fun s8 J8 => ?_
        obtain ⟨y1, y2, _⟩ := J8.pin (a, oe5) (List.mem_append_left _ List.mem_cons_self)
        refine ⟨_, _, track (J8.unsuite ok) y2 old aL (fun x c hx z => ?_) np (caO_ok y1 p2 p3), k7⟩
        obtain ⟨v, o, ho, hv⟩ := J8.cell x c hx
        rw [z, y1] at ho
        cases ho
        rw [p3] at hv
        cases hv
      | brk => exact fin.elim fun _ h => h.elim fun _ h => h.2.elim
      | cont => exact fin.elim fun _ h => h.elim fun _ h => h.2.elim
      | ret u => exact fin.elim fun _ h => h.elim fun _ h => h.elim fun _ h => h.2.2.elim
    | false =>
      show wpAny _ X.A (handleBy (.ref a) X.env []) _ _ _
      refine wpAny_handleBy_nil ?_
      obtain ⟨_, _, T4, _, _, w1, _, w3, w4, _⟩ := id f4.2.2.2
      unfold PySem.passOn
      refine wpAny_bind (wpAny_field w1 w3 w4 ?_)
      rw [if_neg (show ¬ ((Value.ref T4 == Value.none) = true) by simp)]
      have on : wpAny (model X.prog X.w) X.A (setFlight (.ref a) X.env.frame) (fun _ z => wpAny (model X.prog X.w) X.A (throw (.ref a) : Sem Flow) (SP X pins D) X.xe z) X.xe { s' with heap := h4 } := by
        rw [e2]
        refine HandSPX.setFlight_upZ f4 fun h6 held u6 => wpAny_throw (tk _ _ ⟨a, B, sI, pins, σ', H', cls, d, rfl, J, nb, u4.trans u6, ?_, na, os, ag, no rfl⟩)
        rw [e1]
        exact .inr (.inr held)
      first
        | exact wpAny_bind (wpAny_pure (wpAny_bind on))
        | exact wpAny_bind on
  · cases f with
    | next =>
      obtain ⟨σ1, H1, J1, k1⟩ := done
      exact wpAny_execs_nil ⟨σ1, H1, J1.ofTry ok, k1⟩
    | brk =>
      obtain ⟨σ1, H1, J1, k1⟩ := done
      exact ⟨σ1, H1, J1.ofTry ok, k1⟩
    | cont =>
      obtain ⟨σ1, H1, J1, k1⟩ := done
      exact ⟨σ1, H1, J1.ofTry ok, k1⟩
    | ret u =>
      obtain ⟨v1, σ1, H1, J1, r1, k1⟩ := done
      exact ⟨v1, σ1, H1, J1.ofTry ok, r1, k1⟩
end
/-! ## isinstance of a caught exception -/
def rIsC (K : PySem.W.Frag) : List V → Hp → VK → Prop := fun xs H Q => ∃ (a D : Addr) (c : V) (cv : Value) (b : Bool), xs = [.ref a, c] ∧ H a = some (CaO (.ref D) a) ∧ ExcC K D ∧ ClsV c cv ∧ PySem.W.kitOne K (.ref D) cv = some b ∧ Q (.bl b) H
def rIsCT (K : PySem.W.Frag) : List V → Hp → VK → Prop := fun xs H Q => ∃ (a D tp : Addr) (cs : List V) (us : List Value) (b : Bool), xs = [.ref a, .ref tp] ∧ H a = some (CaO (.ref D) a) ∧ ExcC K D ∧ H tp = some (.tup cs) ∧ Paired ClsV cs us ∧ PySem.W.kitAny K (.ref D) us = some b ∧ Q (.bl b) H
section
variable {X : Cx} {K : PySem.W.Frag}
theorem caO_at {pins : List (Addr × Obj)} {σ : L2.St} {H : Hp} {s : Shared} {a D : Addr} (I : Inv X pins σ H s) (e : H a = some (CaO (.ref D) a)) : ∃ oe, PySem.W.InstAt s.heap a oe D none := by
  obtain ⟨⟨oe, vs, h1, h2, h3, h4⟩, _⟩ := (show ObjOk X.prog X.w H s.heap a (CaO (.ref D) a) from I.hok a _ e)
  refine ⟨oe, ?_⟩
  obtain ⟨oc, od, oda, osl⟩ := oe
  dsimp only at h2 h3 h4
  subst h2 h3 h4
  exact ⟨h1, rfl, rfl, trivial⟩
theorem kc_isC (e : X.K = K) : CallR X (.builtin "isinstance") (rIsC K) := by
  subst e
  intro pins s σ H xs us Q I r h
  obtain ⟨a, D, c, cv, b, rfl, ha, C, k, e, q⟩ := h
  obtain ⟨u1, u2, rfl, r1, r2⟩ := vals2 r
  cases (show u1 = Value.ref a from r1)
  have e2 := k.eq r2
  subst e2
  obtain ⟨oe, J⟩ := caO_at I ha
  exact PySem.W.kia_one (PySem.W.handS_kitx_exc C.hg C.hk C.hs C.hd C.ha C.hn C.ht C.hm) I.kIn J e (fun z => nomatch z) fun tk => ⟨.bl b, H, I.tok tk, rfl, q⟩
theorem kc_isCT (e : X.K = K) : CallR X (.builtin "isinstance") (rIsCT K) := by
  subst e
  intro pins s σ H xs us Q I r h
  obtain ⟨a, D, tp, cs, ws, b, rfl, ha, C, hT, k, e, q⟩ := h
  obtain ⟨u1, u2, rfl, r1, r2⟩ := vals2 r
  cases (show u1 = Value.ref a from r1)
  cases (show u2 = Value.ref tp from r2)
  obtain ⟨oe, J⟩ := caO_at I ha
  obtain ⟨_, its, rv, o, h1, h2, n, h3⟩ := (show ObjOk X.prog X.w H s.heap tp (.tup cs) from I.hok tp _ hT)
  have e3 := ClsV.all k rv
  subst e3
  obtain ⟨oc, od, dt, sl⟩ := o
  dsimp only at h2 h3
  subst h2 h3
  exact PySem.W.kia_tup (PySem.W.handS_kitx_exc C.hg C.hk C.hs C.hd C.ha C.hn C.ht C.hm) I.kIn J h1 e (fun z => nomatch z) fun tk => ⟨.bl b, H, I.tok tk, rfl, q⟩
end
/-! ## calls of defs that raise -/
section
variable {X : Cx} {k : Nat} {ps : List Str} {sp : Sp} {W : WX} {x : Str} {st : Stmt} {p pos : Pos} {e : Expr} {es : List Expr} {t tk : TA} {kws : List Keyword} {ks : List Str}
  {g : List Value → List Value → List Value} {gV : List V → List V → List V}
/-- what a def lets out goes on as it is -/
theorem passT {E : XK} (tk : Takes X (fun cls d _ H => E cls d H)) : Passes (L2.CX X.prog X.w) X E := fun _ _ _ _ e s' I c => tk e s' (XE.of_call I (fun _ _ _ h => h) c)
theorem Dok.afterW {f : Addr} {fd : FuncData} (F : Dok X.prog X.w X.K X.mg X.base (L2.CX X.prog X.w) k f fd ps sp) (hr : Rm k X.A) (hx : Takes X W) {pins : List (Addr × Obj)} {σ : L2.St} {H : Hp} {s : Shared} {Q : VK} {args : Args} {us : List Value} {vs : List V}
    (I : Inv X pins σ H s) (r : Vals vs us) (hb : BindsTo s fd args (ps.zip us)) (h : sp vs H Q (fun cls d H' => W cls d σ H')) : codeAny (model X.prog X.w) X.A (.call (.ref f) args) (fun r s' => match r with | .ok (.ret u) => EP X pins σ Q u s' | .ok _ => False | .error e => X.xe e s') s := by
  refine codeAny_mono (F.run X.A X.stack s H args us vs Q _ hr I.env0 hb r h) fun o s' q => ?_
  cases o with
  | error e => exact hx e s' (XE.of_call I (fun _ _ _ h => h) q)
  | ok fl =>
    cases fl with
    | ret u => exact I.after q
    | next => exact q.elim
    | brk => exact q.elim
    | cont => exact q.elim
/-- f(k = v, ..) in a try -/
def tCallW (sp : Sp) (gV : List V → List V → List V) (W : WX) (tk : TA) : TE := fun σ H Q => tk σ H fun zs H2 => sp (gV [] zs) H2 Q (fun cls d H' => W cls d σ H')
theorem c_callW (c : Cal X.prog X.w X.K X.mg X.base (L2.CX X.prog X.w) k x st ps sp) (hr : Rm k X.A) (hx : Takes X W) (hkw : PK X kws tk)
    (h : ∀ (kV doc pm : Value) (an : Option Addr) (cdv ct : Value) (us ws : List Value), (g us ws).length = ps.length →
      bindArgs (PySem.W.fnOf x x (defArgs st) (defBody st) (defScope st) .none kV doc pm an cdv ct) ⟨us, ks.zip ws⟩ = pure (ps.zip (g us ws)))
    (rel : ∀ {vs : List V} {us : List Value} {zs : List V} {ws : List Value}, Vals vs us → Vals zs ws → Vals (gV vs zs) (g us ws)) (hg : Gl X x := by rfl)
    (hall : (backToKw pos (keywordEach kws X.env)).all (·.1.isSome) = true := by rfl) (hks : (backToKw pos (keywordEach kws X.env)).filterMap (·.1) = ks := by rfl)
    (hdb : (x == ("__debug__" : Str)) = false := by decide)
    (hpl : ((backTo pos (starEach [] X.env)).any (·.1) || (backToKw pos (keywordEach kws X.env)).any (·.1.isNone)) = false := by rfl) :
    PE X (.Call (.Name x p) [] kws pos) (tCallW sp gV W tk) := by
  obtain ⟨f, fd, o, d⟩ := c
  have hb : KBinds X.K fd ps ks g gV := kbOf o.F h rel
  refine ⟨fun pins s σ H Q I q => wpAny_Call_Name_kw (ld_glob I hg o.g (PySem.W.callWith_KW0 (h₀ := X.base) I.ok.mod.kin o.F.kp hall (thn (hkw.run pos pins s σ H _ I q) ?_) hpl) hdb)⟩
  rintro ws s2 ⟨zs, H2, I2, rz, q2⟩
  refine ⟨I2.kIn, ?_⟩
  rw [hks]
  have r2 := hb.rel (.nil : Vals [] []) rz
  refine ends (d.afterW hr hx I2 r2 (hb.to s2 [] ws I2.kIn ?_) q2)
  rw [← r2.length]
  exact d.len _ _ _ _ q2
/-- f(a, ..) in a try -/
def tCallP (sp : Sp) (W : WX) (t : TA) : TE := fun σ H Q => t σ H fun vs H2 => sp (vs ++ []) H2 Q (fun cls d H' => W cls d σ H')
theorem c_callP (c : Cal X.prog X.w X.K X.mg X.base (L2.CX X.prog X.w) k x st ps sp) (hr : Rm k X.A) (hx : Takes X W) (ha : PA X (e :: es) t) (hg : Gl X x := by rfl)
    (hdb : (x == ("__debug__" : Str)) = false := by decide) (he : starEach (e :: es) X.env = (false, eval e X.env) :: starEach es X.env := by rfl) (hpl : (backTo pos (starEach es X.env)).any (·.1) = false := by rfl) :
    PE X (.Call (.Name x p) (e :: es) [] pos) (tCallP sp W t) := by
  obtain ⟨f, fd, o, d⟩ := c
  refine ⟨fun pins s σ H Q I q => wpAny_Call_Name_kw (ld_glob I hg o.g (PySem.W.callWith_K (h₀ := X.base) I.ok.mod.kin o.F.kp (thn (ha.run pos pins s σ H _ I q) ?_) he hpl) hdb)⟩
  rintro us s1 ⟨vs, H1, I1, r, q1⟩
  refine ⟨I1.kIn, ?_⟩
  have r2 : Vals (vs ++ []) (us ++ []) := r.append .nil
  refine ends (d.afterW hr hx I1 r2 (o.b s1 us I1.kIn ?_) q1)
  rw [← r2.length]
  exact d.len _ _ _ _ q1
end
/-! ## facts of classes, put together -/
section
open PySem.W
variable {K : PySem.W.Frag} {t c : Value} {C : Addr} {b d : Bool} {r : List Value} {T : String}
theorem exmAny_mk (h1 : exmOne K t c = some b) (h2 : exmAny K t r = some d) : exmAny K t (c :: r) = some (b || d) := by
  unfold exmAny
  rw [h1, h2]
theorem kit_ref (h1 : hasDictIn K C = true) (h2 : typeIn K (.ref C) = some (.type "type")) (h3 : subIn K t (.ref C) = some b) (h4 : t = .ref C → b = true) : kitOne K t (.ref C) = some b := by
  unfold kitOne
  by_cases e : (t == .ref C) = true
  · rw [if_pos e, h4 (beq_iff_eq.mp e)]
  · rw [if_neg e]
    obtain ⟨cd, hc, _⟩ := any_some h1
    have e2 : ((clsIn K C).isSome && typeIn K (.ref C) == some (.type "type")) = true := by rw [hc, h2] <;> rfl
    show (if ((clsIn K C).isSome && typeIn K (.ref C) == some (.type "type")) = true then subIn K t (.ref C) else none) = some b
    rw [if_pos e2]
    exact h3
theorem kit_typ (m : kitMeta T = true) (h : subIn K (.ref C) (.type T) = some b) : kitOne K (.ref C) (.type T) = some b := by
  unfold kitOne
  rw [if_neg (fun e => by cases (beq_iff_eq.mp e))]
  show (if kitMeta T = true then subIn K (.ref C) (.type T) else none) = some b
  rw [if_pos m]
  exact h
theorem kitAny_mk (h1 : kitOne K t c = some false) (h2 : kitAny K t r = some false) : kitAny K t (c :: r) = some false := kitAny_cons h1 (fun _ => h2) (fun e => nomatch e)
end
end Xi

namespace Lw
open PySem PySem.Spec PyProof.Rows L2 Xi
def topS (i : Nat) : Stmt := PySem.Challenge.pw_pleatpunch_k12_where_cells_lie.main.body.getD i (.Pass ⟨0, 0, 0, 0⟩)
structure Txt (mg : Str → Option Value) : Prop where
  abs : mg "abs" = none
  enumerate : mg "enumerate" = none
  len : mg "len" = none
  list : mg "list" = none
  max : mg "max" = none
  min : mg "min" = none
  range : mg "range" = none
  repr : mg "repr" = none
  set : mg "set" = none
  c_MOST_CELLS : ∃ t, mg "MOST_CELLS" = some (.int 200 t)
abbrev s_is_rising : Stmt := topS 4
theorem sc_is_rising : FnScope ["numbers", "end", "ahead", "number"] ["numbers", "end"] (defScope s_is_rising) := ⟨rfl, rfl, rfl, by decide +kernel, rfl, by decide +kernel, by decide +kernel⟩

def risB (m : Int) : Int → List Int → Bool
  | _, [] => true
  | a, c :: r => decide (a < c) && decide (c < m) && risB m c r
theorem risB_cons (m a c : Int) (r : List Int) : risB m a (c :: r) = (decide (a < c) && decide (c < m) && risB m c r) := rfl
section
variable {P : Program} {w : World} {K : PySem.W.Frag} {mg : Str → Option Value} {base : Heap}
def sp_is_rising : Sp := fun vs H Q _ => ∃ (a : Addr) (m : Int) (fs : List Int), vs = [.ref a, .int m] ∧ H a = some (.lst (fs.map V.int)) ∧ Q (.bl (risB m (-1) fs)) H
theorem ok_is_rising {f : Addr} {fd : FuncData} (o : Own K mg "is_rising" s_is_rising ["numbers", "end"] f fd) (T : Txt mg) : Cal P w K mg base CX0 1 "is_rising" s_is_rising ["numbers", "end"] sp_is_rising := by
  refine ⟨f, fd, o, ?_⟩
  refine Dok.calm o.F sc_is_rising (fun vs H Q E h => ?_) (fun cdv A outer s H vs Q E hr h => ?_)
  · obtain ⟨a, m, fs, rfl, _⟩ := h
    rfl
  obtain ⟨a, m, fs, rfl, ea, k⟩ := h
  refine ⟨_, (pss_cons (ps_set (i := 2) sc_is_rising.nd rfl (Or.inl rfl) (pe_un un_neg pe_int))
    (pss_cons (ps_for PassesOwn.never rfl (pi_list (pv 0)) (pg_name (i := 3) sc_is_rising.nd rfl (Or.inl rfl)) (pss_cons (ps_if (pt_not (pt_chain op_lt op_lt (pv 2) (pv 3) (pv 1))) (pss_one (ps_ret pe_bl)) pss_nil)
    (pss_one (ps_set (i := 2) sc_is_rising.nd rfl (Or.inl rfl) (pv 3)))))
    (pss_one (ps_ret pe_bl)))), ?_⟩
  have out : ∀ {b : Bool}, risB m (-1) fs = b → Q (.bl b) H := fun e => e ▸ k
  refine ⟨1, rfl, ?_⟩
  refine ⟨.ref a, rfl, a, rfl, ⟨_, SqL.of ea⟩, ?_⟩
  refine for_it (walk_list (xs := fs.map V.int)) (fun i σ H' => ∃ (ah : Int) (v3 : Option V), σ = [some (.ref a), some (.int m), some (.int ah), v3] ∧ H' = H ∧ i ≤ fs.length ∧ risB m (-1) fs = risB m ah (fs.drop i)) ⟨-1, none, rfl, rfl, Nat.zero_le _, rfl⟩ (fun i σ H' _ ⟨_, _, _, e, _⟩ => SqL.of (e ▸ ea)) ?_ ?_
  · rintro i x σ H1 H1' hi ⟨ah, v3, rfl, rfl, hl, hr⟩ ⟨rfl, ex⟩
    obtain ⟨c, ec, rfl⟩ : ∃ c, fs[i]? = some c ∧ x = .int c := by
      rw [List.getElem?_map] at ex
      cases e : fs[i]? with
      | none => rw [e] at ex; cases ex
      | some c => rw [e] at ex; exact ⟨c, rfl, (Option.some.inj ex).symm⟩
    have hlt : i < fs.length := (List.getElem?_eq_some_iff.mp ec).1
    have ed : fs.drop i = c :: fs.drop (i + 1) := by
      rw [List.drop_eq_getElem_cons hlt]
      rw [List.getElem?_eq_getElem hlt] at ec
      rw [Option.some.inj ec]
    rw [ed, risB_cons] at hr
    by_cases d1 : ah < c
    · refine ⟨.int ah, rfl, .int c, rfl, ah, c, rfl, rfl, true, by show V.bl (decide (ah < c)) = _; rw [decide_eq_true d1], iteT ?_⟩
      by_cases d2 : c < m
      · refine ⟨.int m, rfl, c, m, rfl, rfl, true, by show V.bl (decide (c < m)) = _; rw [decide_eq_true d2], iteF ?_⟩
        refine ⟨.int c, rfl, c, _, rfl, rfl, hlt, ?_⟩
        rw [hr, decide_eq_true d1, decide_eq_true d2]
        rfl
      · refine ⟨.int m, rfl, c, m, rfl, rfl, false, by show V.bl (decide (c < m)) = _; rw [decide_eq_false d2], iteT ?_⟩
        refine out ?_
        rw [hr, decide_eq_true d1, decide_eq_false d2]
        rfl
    · refine ⟨.int ah, rfl, .int c, rfl, ah, c, rfl, rfl, false, by show V.bl (decide (ah < c)) = _; rw [decide_eq_false d1], iteF ⟨false, rfl, iteT ?_⟩⟩
      refine out ?_
      rw [hr, decide_eq_false d1]
      rfl
  · rintro σ H1 ⟨ah, v3, rfl, rfl, _, hr⟩
    rw [List.length_map, List.drop_of_length_le (Nat.le_refl _)] at hr
    refine out ?_
    rw [hr]
    rfl
end
abbrev s_is_folding : Stmt := topS 6
theorem sc_is_folding : FnScope ["many", "folds"] ["many", "folds"] (defScope s_is_folding) := ⟨rfl, rfl, rfl, by decide +kernel, rfl, by decide +kernel, by decide +kernel⟩

abbrev s_places : Stmt := topS 7
theorem sc_places : FnScope ["many", "folds"] ["many", "folds"] (defScope s_places) := ⟨rfl, rfl, rfl, by decide +kernel, rfl, by decide +kernel, by decide +kernel⟩

abbrev s_cells_at : Stmt := topS 8
theorem sc_cells_at : FnScope ["many", "folds", "place", "cell", "at"] ["many", "folds", "place"] (defScope s_cells_at) := ⟨rfl, rfl, rfl, by decide +kernel, rfl, by decide +kernel, by decide +kernel⟩

abbrev s_stacks : Stmt := topS 9
theorem sc_stacks : FnScope ["many", "folds", "laid", "least", "_", "piles", "cell", "place"] ["many", "folds"] (defScope s_stacks) := ⟨rfl, rfl, rfl, by decide +kernel, rfl, by decide +kernel, by decide +kernel⟩

/-! ### foldings: the mathematics -/
def risingB (m : Int) : Int → List Int → Bool
  | _, [] => true
  | a, c :: r => decide (a < c) && decide (c < m - 1) && risingB m c r
theorem risingB_cons (m a c : Int) (r : List Int) : risingB m a (c :: r) = (decide (a < c) && decide (c < m - 1) && risingB m c r) := rfl
def isF (m : Int) (fs : List Int) : Bool := decide (1 ≤ m) && decide (m ≤ 200) && risingB m (-1) fs
/-- place and way behind n cells -/
def stF (fs : List Int) : Nat → Int × Int
  | 0 => (0, 1)
  | n + 1 => if (n : Int) ∈ fs then ((stF fs n).1, -(stF fs n).2) else ((stF fs n).1 + (stF fs n).2, (stF fs n).2)
def posF (fs : List Int) (n : Nat) : Int := (stF fs n).1
def placesL (m : Int) (fs : List Int) : List Int := (List.range m.toNat).map (posF fs)
theorem stF_way (fs : List Int) : ∀ n, (stF fs n).2 = 1 ∨ (stF fs n).2 = -1
  | 0 => .inl rfl
  | n + 1 => by
    unfold stF
    rcases stF_way fs n with h | h <;> split <;> simp [h]
theorem posF_le (fs : List Int) : ∀ n : Nat, -(n : Int) ≤ posF fs n ∧ posF fs n ≤ n
  | 0 => by
    show -(0 : Int) ≤ 0 ∧ (0 : Int) ≤ 0
    omega
  | n + 1 => by
    have ih := posF_le fs n
    have w := stF_way fs n
    unfold posF at ih ⊢
    unfold stF
    split
    · show -((n + 1 : Nat) : Int) ≤ (stF fs n).1 ∧ (stF fs n).1 ≤ ((n + 1 : Nat) : Int)
      omega
    · show -((n + 1 : Nat) : Int) ≤ (stF fs n).1 + (stF fs n).2 ∧ (stF fs n).1 + (stF fs n).2 ≤ ((n + 1 : Nat) : Int)
      omega
theorem placesL_len {m : Int} {fs : List Int} : (placesL m fs).length = m.toNat := by
  unfold placesL
  rw [List.length_map, List.length_range]
theorem risingB_len {m : Int} : ∀ {fs : List Int} {a : Int}, -1 ≤ a → risingB m a fs = true → (fs.length : Int) + a + 1 ≤ max (m - 1) (a + 1)
  | [], a, _, _ => by
    show (0 : Int) + a + 1 ≤ _
    omega
  | c :: r, a, ha, h => by
    rw [risingB_cons] at h
    simp only [Bool.and_eq_true, decide_eq_true_eq] at h
    have ih := risingB_len (fs := r) (a := c) (by omega) h.2
    show ((r.length + 1 : Nat) : Int) + a + 1 ≤ _
    omega
theorem isF_len {m : Int} {fs : List Int} (h : isF m fs = true) : 1 ≤ m ∧ m ≤ 200 ∧ fs.length ≤ 200 := by
  unfold isF at h
  simp only [Bool.and_eq_true, decide_eq_true_eq] at h
  have := risingB_len (fs := fs) (a := -1) (by omega) h.2
  omega
theorem risB_eq (m : Int) : ∀ (a : Int) (fs : List Int), risB (m - 1) a fs = risingB m a fs
  | _, [] => rfl
  | a, c :: r => by
    rw [risB_cons, risingB_cons, risB_eq m c r]
section
variable {P : Program} {w : World} {K : PySem.W.Frag} {mg : Str → Option Value} {base : Heap}
def sp_is_folding : Sp := fun vs H Q _ => ∃ (a : Addr) (m : Int) (fs : List Int), vs = [.int m, .ref a] ∧ H a = some (.lst (fs.map V.int)) ∧ Q (.bl (isF m fs)) H
theorem ok_is_folding {f : Addr} {fd : FuncData} (o : Own K mg "is_folding" s_is_folding ["many", "folds"] f fd) (T : Txt mg) (C_is_rising : Cal P w K mg base CX0 1 "is_rising" s_is_rising ["numbers", "end"] sp_is_rising) : Cal P w K mg base CX0 2 "is_folding" s_is_folding ["many", "folds"] sp_is_folding := by
  refine ⟨f, fd, o, ?_⟩
  refine Dok.calm o.F sc_is_folding (fun vs H Q E h => ?_) (fun cdv A outer s H vs Q E hr h => ?_)
  · obtain ⟨a, m, fs, rfl, _⟩ := h
    rfl
  obtain ⟨a, m, fs, rfl, ea, k⟩ := h
  refine ⟨_, (pss_one (ps_ret (pe_and (pe_chain op_le op_le pe_int (pv 0) (c_const T.c_MOST_CELLS)) (pe_one (c_call C_is_rising (hr.mono (by omega)) pass0 (pa_cons (pv 1) (pa_cons (pe_op op_sub (pv 0) pe_int) pa_nil))))))), ?_⟩
  have out : ∀ {b : Bool}, isF m fs = b → Q (.bl b) H := fun e => e ▸ k
  refine ⟨.int m, rfl, 1, m, rfl, rfl, _, rfl, ite2 (fun c1 => ?_) (fun c1 => ?_)⟩
  · refine ⟨m, 200, rfl, rfl, _, rfl, ite2 (fun c2 => ?_) (fun c2 => ?_)⟩
    · refine ⟨.ref a, rfl, .int m, rfl, m, 1, rfl, rfl, a, m - 1, fs, rfl, ea, ?_⟩
      refine out ?_
      unfold isF
      rw [c1, c2, risB_eq]
      rfl
    · refine out ?_
      unfold isF
      rw [Bool.eq_false_iff.mpr c2, Bool.and_false]
      rfl
  · refine ⟨false, rfl, ?_⟩
    refine out ?_
    unfold isF
    rw [Bool.eq_false_iff.mpr c1]
    rfl
end
/-- the cells below n that lie at pl -/
def cellsL (fs : List Int) (pl : Int) (n : Nat) : List Int := ((List.range n).filter fun i => decide (posF fs i = pl)).map fun i : Nat => (i : Int)
theorem cellsL_succ (fs : List Int) (pl : Int) (n : Nat) : cellsL fs pl (n + 1) = cellsL fs pl n ++ (if posF fs n = pl then [(n : Int)] else []) := by
  unfold cellsL
  rw [List.range_succ, List.filter_append, List.map_append]
  by_cases h : posF fs n = pl
  · simp [h]
  · simp [h]
theorem cellsL_len (fs : List Int) (pl : Int) (n : Nat) : (cellsL fs pl n).length ≤ n := by
  unfold cellsL
  rw [List.length_map]
  exact Nat.le_trans (List.length_filter_le _ _) (Nat.le_of_eq List.length_range)
/-- the lists at rs, each its own -/
def PilesAt (Hb : Hp) (D : Addr) (H' : Hp) (rs : List Addr) (f : Nat → List Int) : Prop := rs.Nodup ∧ ∀ (j : Nat) (r : Addr), rs[j]? = some r → Hb r = none ∧ r ≠ D ∧ H' r = some (.lst ((f j).map V.int))
structure IsMin (ns : List Int) (m : Int) : Prop where
  mem : m ∈ ns
  le : ∀ y ∈ ns, m ≤ y
structure IsMax (ns : List Int) (m : Int) : Prop where
  mem : m ∈ ns
  le : ∀ y ∈ ns, y ≤ m
theorem IsMin.eq {ns : List Int} {a b : Int} (h : IsMin ns a) (g : IsMin ns b) : a = b := by
  have := h.le b g.mem
  have := g.le a h.mem
  omega
theorem IsMax.eq {ns : List Int} {a b : Int} (h : IsMax ns a) (g : IsMax ns b) : a = b := by
  have := h.le b g.mem
  have := g.le a h.mem
  omega
theorem placesL_bd {m : Int} {fs : List Int} (h2 : m ≤ 200) : ∀ y ∈ placesL m fs, -200 ≤ y ∧ y ≤ 200 := fun y hy => by
  unfold placesL at hy
  obtain ⟨i, hi, rfl⟩ := List.mem_map.mp hy
  have := List.mem_range.mp hi
  have := posF_le fs i
  omega
abbrev s_walked : Stmt := topS 10
theorem sc_walked : FnScope ["steps", "folds", "creases", "place", "way", "laid", "cell"] ["steps", "folds"] (defScope s_walked) := ⟨rfl, rfl, rfl, by decide +kernel, rfl, by decide +kernel, by decide +kernel⟩

section
variable {P : Program} {w : World} {K : PySem.W.Frag} {mg : Str → Option Value} {base : Heap}
/-- the places gone through, a new list -/
def sp_pwalk : Sp := fun vs H Q _ => ∃ (a : Addr) (m : Int) (fs : List Int), vs = [.int m, .ref a] ∧ H a = some (.lst (fs.map V.int)) ∧ 0 ≤ m ∧ m ≤ 1000 ∧ fs.length ≤ 1000 ∧ ∀ q H', H q = none → Same H H' → H' q = some (.lst (((List.range (m.toNat + 1)).map (posF fs)).map V.int)) → Q (.ref q) H'
theorem ok_pwalk {f : Addr} {fd : FuncData} (o : Own K mg "walked" s_walked ["steps", "folds"] f fd) (T : Txt mg) : Cal P w K mg base CX0 1 "walked" s_walked ["steps", "folds"] sp_pwalk := by
  refine ⟨f, fd, o, ?_⟩
  refine Dok.calm o.F sc_walked (fun vs H Q E h => ?_) (fun cdv A outer s H vs Q E hr h => ?_)
  · obtain ⟨a, m, fs, rfl, _⟩ := h
    rfl
  obtain ⟨a, m, fs, rfl, ea, m1, m2, hl, k⟩ := h
  refine ⟨_, (pss_cons (ps_set (i := 2) sc_walked.nd rfl (Or.inl rfl) (pe_callTy (kc_setI (K := K) rfl rfl) (by rfl) T.set (by decide +kernel) (pa_cons (pv 1) pa_nil)))
    (pss_cons (ps_set (i := 3) sc_walked.nd rfl (Or.inl rfl) pe_int)
    (pss_cons (ps_set (i := 4) sc_walked.nd rfl (Or.inl rfl) pe_int)
    (pss_cons (ps_set (i := 5) sc_walked.nd rfl (Or.inl rfl) (pe_lst (pa_cons (pv 3) pa_nil)))
    (pss_cons (ps_for PassesOwn.never rfl (pi_range1 rfl T.range (pa_cons (pv 0) pa_nil)) (pg_name (i := 6) sc_walked.nd rfl (Or.inl rfl)) (pss_cons (ps_if (pt_cmpR op_inI (pv 6) (pv 2) rfl) (pss_one (ps_set (i := 4) sc_walked.nd rfl (Or.inl rfl) (pe_un un_neg (pv 4)))) (pss_one (ps_aug (i := 3) sc_walked.nd rfl (Or.inl rfl) (pv 4) ip_add)))
    (pss_one (ps_expr (pe_bm PySem.F.plainAttrs_list PySem.F.slot_list_append PySem.F.type_list_append mt_append (pv 5) (pa_cons (pv 3) pa_nil))))))
    (pss_one (ps_ret (pv 5)))))))), ?_⟩
  refine ⟨.ref a, rfl, a, fs, rfl, SqL.of ea, by omega, fun p S n np hS => ?_⟩
  have s1 := same_new (o := .set S n) np
  refine ⟨.int 0, rfl, (by show 1 ≤ sizeLine; decide), fun l nl => ?_⟩
  have s2 := same_new (o := .lst [.int 0]) nl
  refine ⟨.int m, rfl, _, rfl, by omega, by omega, ?_⟩
  refine for_it walk_range (fun i σ H' => ∃ v6 : Option V, σ = [some (.int m), some (.ref a), some (.ref p), some (.int (posF fs i)), some (.int (stF fs i).2), some (.ref l), v6] ∧ Same (upd H p (.set S n)) H' ∧ H' l = some (.lst (((List.range (i + 1)).map (posF fs)).map V.int))) ⟨none, rfl, s2, upd_same⟩ (fun _ _ _ _ _ => True.intro) ?_ ?_
  · rintro i x σ H1 H1' hi ⟨v6, rfl, s3, el⟩ ⟨rfl, rfl⟩
    have hi' : i < m.toNat := hi
    have e0 : (0 : Int) + (i : Int) = (i : Int) := Int.zero_add _
    have app : ∀ z : Int, z = posF fs (i + 1) → Same (upd H p (.set S n)) (upd H1' l (.lst (((List.range (i + 1)).map (posF fs)).map V.int ++ [.int z]))) ∧ upd H1' l (.lst (((List.range (i + 1)).map (posF fs)).map V.int ++ [.int z])) l = some (.lst (((List.range (i + 1 + 1)).map (posF fs)).map V.int)) := by
      rintro z rfl
      refine ⟨same_mut s3 nl, ?_⟩
      rw [upd_same, List.range_succ (n := i + 1), List.map_append, List.map_append]
      rfl
    have ln : (((List.range (i + 1)).map (posF fs)).map V.int).length < sizeLine := by
      rw [List.length_map, List.length_map, List.length_range]
      exact long_ok (by omega)
    refine ⟨.int (0 + i), rfl, .ref p, rfl, 0 + i, p, S, n, rfl, rfl, s3 _ _ upd_same, S (0 + i), rfl, ?_⟩
    rw [hS, e0]
    by_cases c : (i : Int) ∈ fs
    · rw [decide_eq_true c]
      refine iteT ?_
      have e1 : posF fs (i + 1) = posF fs i := by
        unfold posF
        rw [stF, if_pos c]
      have e2 : (stF fs (i + 1)).2 = -(stF fs i).2 := by rw [stF, if_pos c]
      refine ⟨.int (stF fs i).2, rfl, _, rfl, ?_⟩
      refine ⟨.ref l, rfl, .inl ⟨rfl, _, SqL.of el⟩, .int (posF fs i), rfl, l, _, _, rfl, rfl, el, ln, ?_⟩
      obtain ⟨x1, x2⟩ := app (posF fs i) e1.symm
      exact ⟨_, by rw [e1, e2]; rfl, x1, x2⟩
    · rw [decide_eq_false c]
      refine iteF ?_
      have e1 : posF fs (i + 1) = posF fs i + (stF fs i).2 := by
        unfold posF
        rw [stF, if_neg c]
      have e2 : (stF fs (i + 1)).2 = (stF fs i).2 := by rw [stF, if_neg c]
      refine ⟨.int (posF fs i), rfl, .int (stF fs i).2, rfl, posF fs i, (stF fs i).2, rfl, rfl, ?_⟩
      refine ⟨.ref l, rfl, .inl ⟨rfl, _, SqL.of el⟩, .int (posF fs i + (stF fs i).2), rfl, l, _, _, rfl, rfl, el, ln, ?_⟩
      obtain ⟨x1, x2⟩ := app (posF fs i + (stF fs i).2) e1.symm
      exact ⟨_, by rw [e1, e2]; rfl, x1, x2⟩
  · rintro σ H1 ⟨v6, rfl, s3, el⟩
    exact ⟨.ref l, rfl, k l H1 (s1.free nl) (s1.trans s3) el⟩
end
section
variable {P : Program} {w : World} {K : PySem.W.Frag} {mg : Str → Option Value} {base : Heap}
/-- the places, a new list -/
def sp_places : Sp := fun vs H Q _ => ∃ (a : Addr) (m : Int) (fs : List Int), vs = [.int m, .ref a] ∧ H a = some (.lst (fs.map V.int)) ∧ isF m fs = true ∧ ∀ q H', H q = none → Same H H' → H' q = some (.lst ((placesL m fs).map V.int)) → Q (.ref q) H'
theorem ok_places {f : Addr} {fd : FuncData} (o : Own K mg "places" s_places ["many", "folds"] f fd) (T : Txt mg) (C_is_folding : Cal P w K mg base CX0 2 "is_folding" s_is_folding ["many", "folds"] sp_is_folding) (C_walked : Cal P w K mg base CX0 1 "walked" s_walked ["steps", "folds"] sp_pwalk) : Cal P w K mg base CX0 3 "places" s_places ["many", "folds"] sp_places := by
  refine ⟨f, fd, o, ?_⟩
  refine Dok.calm o.F sc_places (fun vs H Q E h => ?_) (fun cdv A outer s H vs Q E hr h => ?_)
  · obtain ⟨a, m, fs, rfl, _⟩ := h
    rfl
  obtain ⟨a, m, fs, rfl, ea, hF, k⟩ := h
  obtain ⟨m1, m2, hl⟩ := isF_len hF
  refine ⟨_, (pss_cons (ps_if (pt_not (pt_val (c_call C_is_folding (hr.mono (by omega)) pass0 (pa_cons (pv 0) (pa_cons (pv 1) pa_nil))))) (pss_one (ps_never)) pss_nil)
    (pss_one (ps_ret (c_call C_walked (hr.mono (by omega)) pass0 (pa_cons (pe_op op_sub (pv 0) pe_int) (pa_cons (pv 1) pa_nil)))))), ?_⟩
  refine ⟨.int m, rfl, .ref a, rfl, a, m, fs, rfl, ea, ⟨true, by rw [hF], iteF ?_⟩⟩
  refine ⟨.int m, rfl, m, 1, rfl, rfl, .ref a, rfl, a, m - 1, fs, rfl, ea, by omega, by omega, by omega, fun q H' nq s e => k q H' nq s ?_⟩
  rw [e, show (m - 1).toNat + 1 = m.toNat by omega]
  rfl
/-- the cells at a place, a new list -/
def sp_cells_at : Sp := fun vs H Q _ => ∃ (a : Addr) (m pl : Int) (fs : List Int), vs = [.int m, .ref a, .int pl] ∧ H a = some (.lst (fs.map V.int)) ∧ isF m fs = true ∧ ∀ q H', H q = none → Same H H' → H' q = some (.lst ((cellsL fs pl m.toNat).map V.int)) → Q (.ref q) H'
theorem ok_cells_at {f : Addr} {fd : FuncData} (o : Own K mg "cells_at" s_cells_at ["many", "folds", "place"] f fd) (T : Txt mg) (C_places : Cal P w K mg base CX0 3 "places" s_places ["many", "folds"] sp_places) : Cal P w K mg base CX0 4 "cells_at" s_cells_at ["many", "folds", "place"] sp_cells_at := by
  refine ⟨f, fd, o, ?_⟩
  refine Dok.calm o.F sc_cells_at (fun vs H Q E h => ?_) (fun cdv A outer s H vs Q E hr h => ?_)
  · obtain ⟨a, m, pl, fs, rfl, _⟩ := h
    rfl
  obtain ⟨a, m, pl, fs, rfl, ea, hF, k⟩ := h
  obtain ⟨m1, m2, hl⟩ := isF_len hF
  refine ⟨_, (pss_one (ps_ret (pe_lc (own := [("cell", 3), ("at", 4)]) (g := (gTup K 2 (gCons (gName 3) (gCons (gName 4) gNil)))) (by rfl) sc_cells_at.nd (pi_enum (by rfl) T.enumerate (pa_cons (c_call C_places (hr.mono (by omega)) pass0 (pa_cons (pv 0) (pa_cons (pv 1) pa_nil))) pa_nil)) (blkOk_by (own := [("cell", 3), ("at", 4)]) (N := ["many", "folds", "place", "cell", "at"]) (sc := defScope s_cells_at) (by decide +kernel)) (fun _ _ _ _ _ => (pg_tup rfl (pgs_cons (pg_name (i := 3) sc_cells_at.nd rfl (Or.inl rfl)) (pgs_cons (pg_name (i := 4) sc_cells_at.nd rfl (Or.inl rfl)) pgs_nil)))) (fun _ _ _ _ _ => (pts_one (pt_cmpR op_eq (pv 4) (pv 2) (nomark _)))) (fun _ _ _ _ _ => (pv 3))))), ?_⟩
  refine ⟨.int m, rfl, .ref a, rfl, a, m, fs, rfl, ea, hF, fun l H1 nl s1 el => ?_⟩
  refine ⟨l, _, rfl, SqL.of el, fun D hD => ?_⟩
  have lp : ((placesL m fs).map V.int).length = m.toNat := by rw [List.length_map, placesL_len]
  refine lc_it (walk_enum (xs := (placesL m fs).map V.int)) (fun i H' => Same H1 H' ∧ H' D = some (.lst ((cellsL fs pl i).map V.int))) ⟨same_new hD, upd_same⟩ (fun i H' _ e => SqL.of (e.1 _ _ el)) ?_ ?_
  · rintro i x H2 H2' hi ⟨s2, eD⟩ ⟨t, y1, y2, rfl, nt, rfl, e1, e2⟩
    rw [lp] at hi
    cases (Option.some.inj e1 : V.int (i : Nat) = y1)
    have ey : y2 = .int (posF fs i) := by
      have q : ((placesL m fs).map V.int)[i]? = some (.int (posF fs i)) := by
        unfold placesL
        rw [List.getElem?_map, List.getElem?_map, List.getElem?_range hi]
        rfl
      exact Option.some.inj (e2.symm.trans q)
    subst ey
    have s3 := same_new (o := .tup [.int (i : Nat), .int (posF fs i)]) nt
    refine ⟨t, _, rfl, SqT.of upd_same, rfl, _, _, rfl, _, [], rfl, rfl, rfl, ?_⟩
    refine ⟨_, rfl, .int pl, rfl, rfl, _, rfl, ?_⟩
    by_cases c : posF fs i = pl
    · rw [decide_eq_true (congrArg V.int c)]
      refine iteT ?_
      refine ⟨_, rfl, _, s3 _ _ eD, ?_, same_mut (s2.trans s3) hD, ?_⟩
      · rw [List.length_map]
        exact long_ok (Nat.le_trans (cellsL_len _ _ _) (by omega))
      · rw [upd_same, cellsL_succ, if_pos c, List.map_append]
        rfl
    · rw [decide_eq_false (fun z => c (V.int.inj z))]
      refine iteF ⟨s2.trans s3, ?_⟩
      rw [s3 _ _ eD, cellsL_succ, if_neg c, List.append_nil]
  · rintro H2 ⟨s2, eD⟩
    rw [lp] at eD
    exact k D H2 (s1.free hD) (s1.trans s2) eD
/-- the stacks, new lists -/
def sp_stacks : Sp := fun vs H Q _ => ∃ (a : Addr) (m : Int) (fs : List Int), vs = [.int m, .ref a] ∧ H a = some (.lst (fs.map V.int)) ∧ isF m fs = true ∧
  ∀ q H' rs mn mx, H q = none → Same H H' → IsMin (placesL m fs) mn → IsMax (placesL m fs) mx → rs.length = (mx + 1 - mn).toNat → H' q = some (.lst (rs.map V.ref)) → PilesAt H q H' rs (fun j => cellsL fs (mn + j) m.toNat) → Q (.ref q) H'
theorem ok_stacks {f : Addr} {fd : FuncData} (o : Own K mg "stacks" s_stacks ["many", "folds"] f fd) (T : Txt mg) (C_places : Cal P w K mg base CX0 3 "places" s_places ["many", "folds"] sp_places) : Cal P w K mg base CX0 4 "stacks" s_stacks ["many", "folds"] sp_stacks := by
  refine ⟨f, fd, o, ?_⟩
  refine Dok.calm o.F sc_stacks (fun vs H Q E h => ?_) (fun cdv A outer s H vs Q E hr h => ?_)
  · obtain ⟨a, m, fs, rfl, _⟩ := h
    rfl
  obtain ⟨a, m, fs, rfl, ea, hF, k⟩ := h
  obtain ⟨m1, m2, hl⟩ := isF_len hF
  have lp : (placesL m fs).length = m.toNat := placesL_len
  refine ⟨_, (pss_cons (ps_set (i := 2) sc_stacks.nd rfl (Or.inl rfl) (c_call C_places (hr.mono (by omega)) pass0 (pa_cons (pv 0) (pa_cons (pv 1) pa_nil))))
    (pss_cons (ps_set (i := 3) sc_stacks.nd rfl (Or.inl rfl) (pe_callB (kc_min (K := K) rfl rfl) (by rfl) T.min (by decide +kernel) (pa_cons (pv 2) pa_nil)))
    (pss_cons (ps_setLc (i := 5) (own := [("_", 4)]) (g := (gName 4)) (by rfl) sc_stacks.nd rfl rfl (sw_true rfl rfl rfl (by decide +kernel)) (pi_range2 rfl T.range (pa_cons (pv 3) (pa_cons (pe_op op_add (pe_callB (kc_max (K := K) rfl rfl) (by rfl) T.max (by decide +kernel) (pa_cons (pv 2) pa_nil)) pe_int) pa_nil))) (blkOk_by (own := [("_", 4)]) (N := ["many", "folds", "laid", "least", "_", "piles", "cell", "place"]) (sc := defScope s_stacks) (by decide +kernel)) (fun _ _ _ _ _ => (pg_name (i := 4) sc_stacks.nd rfl (Or.inl rfl))) (fun _ _ _ _ _ => pts_nil) (fun _ _ _ _ _ => (pe_lst pa_nil)))
    (pss_cons (ps_for PassesOwn.never rfl (pi_enum (by rfl) T.enumerate (pa_cons (pv 2) pa_nil)) (pg_tup rfl (pgs_cons (pg_name (i := 6) sc_stacks.nd rfl (Or.inl rfl)) (pgs_cons (pg_name (i := 7) sc_stacks.nd rfl (Or.inl rfl)) pgs_nil))) (pss_one (ps_expr (pe_bm PySem.F.plainAttrs_list PySem.F.slot_list_append PySem.F.type_list_append mt_append (pe_ix (k_ixL (K := K) rfl) (pv 5) (pe_op op_sub (pv 7) (pv 3)) (fun _ _ => rfl)) (pa_cons (pv 6) pa_nil)))))
    (pss_one (ps_ret (pv 5))))))), ?_⟩
  refine ⟨.int m, rfl, .ref a, rfl, a, m, fs, rfl, ea, hF, fun l H1 nl s1 el => ?_⟩
  refine ⟨.ref l, rfl, l, _, rfl, SqL.of el, by omega, fun mn hmn1 hmn2 => ?_⟩
  have hmn : IsMin (placesL m fs) mn := ⟨hmn1, hmn2⟩
  have bmn := placesL_bd m2 mn hmn1
  refine ⟨.int mn, rfl, .ref l, rfl, l, _, rfl, SqL.of el, by omega, fun mx hmx1 hmx2 => ⟨mx, 1, rfl, rfl, ?_⟩⟩
  have hmx : IsMax (placesL m fs) mx := ⟨hmx1, hmx2⟩
  have bmx := placesL_bd m2 mx hmx1
  have hle : mn ≤ mx := hmn.le mx hmx.mem
  refine ⟨mn, mx + 1, rfl, ⟨by omega, by omega, by omega, by omega⟩, fun D hD => ?_⟩
  refine lc_it walk_range (fun i H' => Same H1 H' ∧ ∃ rs : List Addr, rs.length = i ∧ H' D = some (.lst (rs.map V.ref)) ∧ PilesAt H1 D H' rs (fun _ => [])) ⟨same_new hD, [], rfl, upd_same, List.nodup_nil, fun j r e => by simp at e⟩ (fun _ _ _ _ => True.intro) ?_ ?_
  · rintro i x H2 H2' hi ⟨s2, rs, lr, eD, nd, pr⟩ ⟨rfl, rfl⟩
    have hi' : i < (mx + 1 - mn).toNat := hi
    refine ⟨rfl, tyes (iteT ?_)⟩
    refine ⟨Nat.zero_le _, fun r nr => ?_⟩
    have s3 := same_new (o := .lst []) nr
    have rD : D ≠ r := ne_of_none eD nr
    refine ⟨rs.map V.ref, s3 _ _ eD, by rw [List.length_map]; exact long_ok (by omega), same_mut (s2.trans s3) hD, rs ++ [r], by simp [lr], by rw [upd_same, List.map_append]; rfl, ?_, fun j r' e => ?_⟩
    · refine List.nodup_append.mpr ⟨nd, by simp, ?_⟩
      intro y hy z hz
      simp only [List.mem_singleton] at hz
      subst hz
      obtain ⟨j, hj⟩ := List.mem_iff_getElem?.mp hy
      exact ne_of_none (pr j y hj).2.2 nr
    · by_cases hj : j < rs.length
      · rw [List.getElem?_append_left hj] at e
        obtain ⟨a1, a2, a3⟩ := pr j r' e
        exact ⟨a1, a2, by rw [upd_ne a2]; exact s3 _ _ a3⟩
      · have ej : j = rs.length := by
          have := (List.getElem?_eq_some_iff.mp e).1
          simp at this
          omega
        subst ej
        rw [List.getElem?_append_right (Nat.le_refl _), Nat.sub_self] at e
        cases (Option.some.inj e : r = r')
        exact ⟨s2.free nr, rD.symm, by rw [upd_ne rD.symm]; exact upd_same⟩
  · rintro H2 ⟨s2, rs, lr, eD, pr⟩
    refine ⟨.ref l, rfl, l, _, rfl, SqL.of (s2 _ _ el), ?_⟩
    have lq : ((placesL m fs).map V.int).length = m.toNat := by rw [List.length_map, lp]
    refine for_it (walk_enum (xs := (placesL m fs).map V.int)) (fun i σ H' => ∃ v4 v6 v7 : Option V, σ = [some (.int m), some (.ref a), some (.ref l), some (.int mn), v4, some (.ref D), v6, v7] ∧ Same H1 H' ∧ H' D = some (.lst (rs.map V.ref)) ∧ PilesAt H1 D H' rs (fun j => cellsL fs (mn + j) i)) ⟨none, none, none, rfl, s2, eD, pr⟩ (fun i σ H' _ ⟨_, _, _, _, e, _⟩ => SqL.of (e _ _ el)) ?_ ?_
    · rintro i x σ H3 H3' hi ⟨v4, v6, v7, rfl, s3, eD3, nd, pr3⟩ ⟨t, y1, y2, rfl, nt, rfl, e1, e2⟩
      rw [lq] at hi
      cases (Option.some.inj e1 : V.int (i : Nat) = y1)
      have hp : posF fs i ∈ placesL m fs := List.mem_map.mpr ⟨i, List.mem_range.mpr hi, rfl⟩
      have ey : y2 = .int (posF fs i) := by
        have q : ((placesL m fs).map V.int)[i]? = some (.int (posF fs i)) := by
          unfold placesL
          rw [List.getElem?_map, List.getElem?_map, List.getElem?_range hi]
          rfl
        exact Option.some.inj (e2.symm.trans q)
      subst ey
      have b1 := hmn.le _ hp
      have b2 := hmx.le _ hp
      obtain ⟨j0, ej0⟩ := Int.eq_ofNat_of_zero_le (show 0 ≤ posF fs i - mn by omega)
      have hj0 : j0 < rs.length := by omega
      obtain ⟨a1, a2, a3⟩ := pr3 j0 rs[j0] (List.getElem?_eq_getElem hj0)
      have s4 := same_new (o := .tup [.int (i : Nat), .int (posF fs i)]) nt
      refine ⟨t, _, rfl, SqT.of upd_same, rfl, _, _, rfl, _, [], rfl, rfl, ?_⟩
      have eA : atI (rs.map V.ref) (posF fs i - mn) = some (.ref rs[j0]) := by
        rw [ej0]
        exact atI_nat (by rw [List.getElem?_map, List.getElem?_eq_getElem hj0]; rfl)
      refine ⟨.ref D, rfl, .int (posF fs i), rfl, .int mn, rfl, _, _, rfl, rfl, D, _, _, _, rfl, rfl, SqL.of (s4 _ _ eD3), eA, .inl ⟨rfl, _, SqL.of (s4 _ _ a3)⟩, _, rfl, rs[j0], _, _, rfl, rfl, s4 _ _ a3, ?_, ?_⟩
      · rw [List.length_map]
        exact long_ok (Nat.le_trans (cellsL_len _ _ _) (by omega))
      refine ⟨_, _, _, rfl, same_mut (s3.trans s4) a1, by rw [upd_ne a2.symm]; exact s4 _ _ eD3, nd, fun j r e => ?_⟩
      obtain ⟨c1, c2, c3⟩ := pr3 j r e
      refine ⟨c1, c2, ?_⟩
      show upd _ rs[j0] (.lst ((cellsL fs (mn + (j0 : Int)) i).map V.int ++ [.int (i : Nat)])) r = some (.lst ((cellsL fs (mn + (j : Int)) (i + 1)).map V.int))
      rw [cellsL_succ]
      by_cases hj : j = j0
      · subst hj
        have er : r = rs[j] := Option.some.inj (e.symm.trans (List.getElem?_eq_getElem hj0))
        subst er
        rw [upd_same, if_pos (by omega), List.map_append]
        rfl
      · have ner : r ≠ rs[j0] := fun z => hj (nd_ix nd e (z ▸ List.getElem?_eq_getElem hj0))
        rw [upd_ne ner, if_neg (by omega), List.append_nil]
        exact s4 _ _ c3
    · rintro σ H3 ⟨v4, v6, v7, rfl, s3, eD3, nd, pr3⟩
      rw [lq] at pr3
      refine ⟨.ref D, rfl, k D H3 rs mn mx (s1.free hD) (s1.trans s3) hmn hmx lr eD3 ⟨nd, fun j r e => ?_⟩⟩
      obtain ⟨a1, a2, a3⟩ := pr3 j r e
      exact ⟨s1.free a1, a2, a3⟩
end
abbrev s_law_spool : Stmt := topS 12
theorem sc_law_spool : FnScope ["script", "k", "cell"] ["script", "k"] (defScope s_law_spool) := ⟨rfl, rfl, rfl, by decide +kernel, rfl, by decide +kernel, by decide +kernel⟩

abbrev s_law_reel : Stmt := topS 13
theorem sc_law_reel : FnScope ["spool", "size", "found", "mixed"] ["spool", "size"] (defScope s_law_reel) := ⟨rfl, rfl, rfl, by decide +kernel, rfl, by decide +kernel, by decide +kernel⟩

abbrev s_law_size : Stmt := topS 14
theorem sc_law_size : FnScope ["spool"] ["spool"] (defScope s_law_size) := ⟨rfl, rfl, rfl, by decide +kernel, rfl, by decide +kernel, by decide +kernel⟩

abbrev s_law_folds : Stmt := topS 15
theorem sc_law_folds : FnScope ["spool", "size", "often", "wide", "crease"] ["spool", "size"] (defScope s_law_folds) := ⟨rfl, rfl, rfl, by decide +kernel, rfl, by decide +kernel, by decide +kernel⟩

section
variable {P : Program} {w : World} {K : PySem.W.Frag} {mg : Str → Option Value} {base : Heap}
def sp_pull0 : Sp := fun vs H Q _ => ∃ (p : Addr) (x y z c : Int) (n : Nat), vs = [.ref p, .int c] ∧ H p = some (reelL x y z) ∧ RB (n + 1) x y z ∧ 0 < c ∧ c < 2 ^ 29 ∧
  ∀ x' z' r, RB n x' y z' → 0 ≤ r → r < c → Q (.int r) (upd H p (reelL x' y z'))
/-- a draw: 0 <= r < c -/
def sp_pull : Sp := fun vs H Q _ => ∃ (p : Addr) (c : Int) (n : Nat), vs = [.ref p, .int c] ∧ H p = some (rl n p) ∧ 1 ≤ n ∧ 0 < c ∧ c < 2 ^ 29 ∧
  ∀ r H', Sr p n (n - 1) H H' → 0 ≤ r → r < c → Q (.int r) H'
def st1 (y z : Int) : Int := ((y + 4256233 * (z + 1)) ^ Int.toNat 3).fmod (10 ^ 37 + 9)
def st2 (u z : Int) : Int := ((u + 15487469 * (z + 1)) ^ Int.toNat 5).fmod (10 ^ 39 + 3)
theorem fmod_lt {a c : Int} (hc : 0 < c) : 0 ≤ a.fmod c ∧ a.fmod c < c := by
  rw [Int.fmod_eq_emod_of_nonneg a (by omega)]
  exact ⟨Int.emod_nonneg a (by omega), Int.emod_lt_of_pos a hc⟩
theorem fdiv_bd {a c : Int} (ha : 0 ≤ a) (hc : 0 < c) : 0 ≤ a.fdiv c := by
  rw [Int.fdiv_eq_ediv_of_nonneg a (by omega)]
  exact Int.ediv_nonneg ha (by omega)
theorem bits_lt {i : Int} {m : Nat} (h : i.natAbs < 2 ^ m) (hm : 0 < m) : Builtin.Int.intBits i ≤ m := by
  unfold Builtin.Int.intBits
  split
  · omega
  · have := PySem.Flt.log2_lt_of hm h
    omega
theorem powk {i k : Int} {m : Nat} (h : i.natAbs < 2 ^ m) (hm : 0 < m) (h2 : m ≤ 1000000) (k0 : 0 ≤ k) (k5 : k ≤ 5) : (0 : Int) ≤ k ∧ (Builtin.Int.intBits i : Int) * k ≤ 2 ^ 27 := by
  have b := bits_lt h hm
  refine ⟨k0, ?_⟩
  have e : (2 : Int) ^ 27 = 134217728 := by decide
  have c : (Builtin.Int.intBits i : Int) * k ≤ (Builtin.Int.intBits i : Int) * 5 := Int.mul_le_mul_of_nonneg_left k5 (by omega)
  omega
theorem at_mem {xs : List V} {r : Int} (h0 : 0 ≤ r) (h1 : r < (xs.length : Int)) : ∃ v, atI xs r = some v ∧ v ∈ xs := by
  obtain ⟨j, rfl⟩ := Int.eq_ofNat_of_zero_le h0
  have hj : j < xs.length := by omega
  exact ⟨xs[j], atI_nat (List.getElem?_eq_getElem hj), List.getElem_mem hj⟩
theorem ok_pull0 {f : Addr} {fd : FuncData} (F : Fun K "_law_reel" "_law_reel" s_law_reel f fd) : Dok P w K mg base CX0 1 f fd ["spool", "size"] sp_pull0 := by
  refine Dok.calm F sc_law_reel (fun vs H Q E h => ?_) (fun cdv A outer s H vs Q E hr h => ?_)
  · obtain ⟨p, x, y, z, c, n, rfl, _⟩ := h
    rfl
  obtain ⟨p, x, y, z, c, n, rfl, hp, ⟨bx, by0, by1, bz, bn⟩, c0, c1, k⟩ := h
  refine ⟨_, (pss_cons (ps_if (pt_cmpR op_gt (pe_ix (k_ixL (K := K) rfl) (pv 0) pe_int (fun _ _ => rfl)) pe_int (nomark _)) (pss_cons (ps_set (i := 2) sc_law_reel.nd rfl (Or.inl rfl) (pe_op op_modN (pe_ix (k_ixL (K := K) rfl) (pv 0) pe_int (fun _ _ => rfl)) (pv 1)))
    (pss_cons (ps_asg (pe_op op_fdivN (pe_ix (k_ixL (K := K) rfl) (pv 0) pe_int (fun _ _ => rfl)) (pv 1)) (pg_sub (pv 0) pe_int set_list))
    (pss_one (ps_ret (pv 2))))) pss_nil)
    (pss_cons (ps_asg (pe_op op_add (pe_ix (k_ixL (K := K) rfl) (pv 0) pe_int (fun _ _ => rfl)) pe_int) (pg_sub (pv 0) pe_int set_list))
    (pss_cons (ps_set (i := 3) sc_law_reel.nd rfl (Or.inl rfl) (pe_op op_modN (pe_op op_powW (pe_op op_add (pe_ix (k_ixL (K := K) rfl) (pv 0) pe_int (fun _ _ => rfl)) (pe_op op_mul pe_int (pe_ix (k_ixL (K := K) rfl) (pv 0) pe_int (fun _ _ => rfl)))) pe_int) (pe_op op_add (pe_op op_pow pe_int pe_int) pe_int)))
    (pss_cons (ps_set (i := 3) sc_law_reel.nd rfl (Or.inl rfl) (pe_op op_modN (pe_op op_powW (pe_op op_add (pv 3) (pe_op op_mul pe_int (pe_ix (k_ixL (K := K) rfl) (pv 0) pe_int (fun _ _ => rfl)))) pe_int) (pe_op op_add (pe_op op_pow pe_int pe_int) pe_int)))
    (pss_one (ps_ret (pe_op op_modN (pe_op op_fdivN (pv 3) pe_int) (pv 1)))))))), ?_⟩
  have hS : ∀ {H : Hp} {x y z : Int}, H p = some (reelL x y z) → SqL K H p [.int x, .int y, .int z] := fun h => SqL.of h
  refine ⟨.ref p, rfl, p, _, 0, .int x, rfl, rfl, hS hp, rfl, x, 0, rfl, rfl, _, rfl, ite2 (fun h0 => ?_) (fun _ => ?_)⟩
  · have cd : c ≠ 0 ∧ c.natAbs < 1073741824 := by
      have : (2 : Int) ^ 29 = 536870912 := by decide
      omega
    refine ⟨.ref p, rfl, p, _, 0, .int x, rfl, rfl, hS hp, rfl, .int c, rfl, x, c, rfl, rfl, cd.1, ?_⟩
    refine ⟨.ref p, rfl, p, _, 0, .int x, rfl, rfl, hS hp, rfl, .int c, rfl, x, c, rfl, rfl, cd, .ref p, rfl, p, _, 0, 0, rfl, rfl, hp, rfl, .int (x.fmod c), rfl, ?_⟩
    exact k _ _ _ ⟨fdiv_bd bx c0, by0, by1, bz, by omega⟩ (fmod_lt c0).1 (fmod_lt c0).2
  · refine ⟨.ref p, rfl, p, _, 2, .int z, rfl, rfl, hS hp, rfl, z, 1, rfl, rfl, .ref p, rfl, p, _, 2, 2, rfl, rfl, hp, rfl, ?_⟩
    have hp2 : upd H p (reelL x y (z + 1)) p = some (reelL x y (z + 1)) := upd_same
    have zb : 0 ≤ z + 1 ∧ z + 1 ≤ 1000000000 := by omega
    have e200 : (2 : Int) ^ 200 = 1606938044258990275541962092341162602522202993782792835301376 := by decide
    have e210 : (2 : Nat) ^ 210 = 1645504557321206042154969182557350504982735865633579863348609024 := by decide
    refine ⟨.ref p, rfl, p, _, 1, .int y, rfl, rfl, hS hp2, rfl, .ref p, rfl, p, _, 2, .int (z + 1), rfl, rfl, hS hp2, rfl, 4256233, z + 1, rfl, rfl, .inl ⟨by decide, by decide⟩, y, 4256233 * (z + 1), rfl, rfl,
      y + 4256233 * (z + 1), 3, rfl, rfl, powk (m := 210) (by rw [e210]; omega) (by decide) (by decide) (by decide) (by decide), 10, 37, rfl, rfl, ⟨by decide, by decide, by decide⟩, 10 ^ 37, 9, rfl, rfl, _, 10 ^ 37 + 9, rfl, rfl, (show (10 : Int) ^ 37 + 9 ≠ 0 by decide), ?_⟩
    obtain ⟨u, hu⟩ : ∃ u, u = st1 y z := ⟨_, rfl⟩
    have bu : 0 ≤ u ∧ u < 10 ^ 37 + 9 := by
      rw [hu]
      exact fmod_lt (by decide)
    have e37 : (10 : Int) ^ 37 = 10000000000000000000000000000000000000 := by decide
    refine ⟨.int u, by rw [hu]; rfl, .ref p, rfl, p, _, 2, .int (z + 1), rfl, rfl, hS hp2, rfl, 15487469, z + 1, rfl, rfl, .inl ⟨by decide, by decide⟩, u, 15487469 * (z + 1), rfl, rfl,
      u + 15487469 * (z + 1), 5, rfl, rfl, powk (m := 210) (by rw [e210]; omega) (by decide) (by decide) (by decide) (by decide), 10, 39, rfl, rfl, ⟨by decide, by decide, by decide⟩, 10 ^ 39, 3, rfl, rfl, _, 10 ^ 39 + 3, rfl, rfl, (show (10 : Int) ^ 39 + 3 ≠ 0 by decide), ?_⟩
    refine ⟨.int (st2 u z), rfl, st2 u z, 262147, rfl, rfl, ⟨by decide, by decide⟩, .int c, rfl, (st2 u z).fdiv 262147, c, rfl, rfl, by omega, ?_⟩
    exact k _ _ _ ⟨bx, by0, by1, zb.1, by omega⟩ (fmod_lt c0).1 (fmod_lt c0).2
theorem ok_pull {f : Addr} {fd : FuncData} (o : Own K mg "_law_reel" s_law_reel ["spool", "size"] f fd) : Cal P w K mg base CX0 1 "_law_reel" s_law_reel ["spool", "size"] sp_pull := by
  refine ⟨f, fd, o, Dok.reel (ok_pull0 o.F) (fun vs H Q E h => ?_) (fun vs H Q E h => ?_)⟩
  · obtain ⟨p, c, n, rfl, _⟩ := h
    rfl
  obtain ⟨p, c, n, rfl, hp, n1, c0, c1, k⟩ := h
  obtain ⟨m, rfl⟩ : ∃ m, n = m + 1 := ⟨n - 1, by omega⟩
  refine ⟨p, m + 1, hp, fun x y z b => ⟨p, x, y, z, c, m, rfl, upd_same, b, c0, c1, fun x' z' r b' r0 r1 => ?_⟩⟩
  refine ⟨H, p, x', y, z', m, b', upd_upd, k r _ ⟨hp, upd_same, fun b o d e => ?_⟩ r0 r1⟩
  rw [upd_ne d]
  exact e
def sp_spool0 (K : PySem.W.Frag) : Sp := fun vs H Q _ => ∃ (a : Addr) (ns : List Int) (k : Int), vs = [.ref a, .int k] ∧ SqL K H a (ns.map V.int) ∧ 0 ≤ k ∧ k ≤ 1000 ∧
  ∀ p x y, H p = none → RB 1000000 x y 0 → Q (.ref p) (upd H p (reelL x y 0))
/-- a new spool, good for a million draws -/
def sp_spool (K : PySem.W.Frag) : Sp := fun vs H Q _ => ∃ (a : Addr) (ns : List Int) (k : Int), vs = [.ref a, .int k] ∧ SqL K H a (ns.map V.int) ∧ 0 ≤ k ∧ k ≤ 1000 ∧
  ∀ p H', H p = none → Same H H' → H' p = some (rl 1000000 p) → Q (.ref p) H'
theorem ok_spool {f : Addr} {fd : FuncData} (o : Own K mg "_law_spool" s_law_spool ["script", "k"] f fd) (T : Txt mg) : Cal P w K mg base CX0 1 "_law_spool" s_law_spool ["script", "k"] (sp_spool K) := by
  have z : Dok P w K mg base CX0 1 f fd ["script", "k"] (sp_spool0 K) := by
    refine Dok.calm o.F sc_law_spool (fun vs H Q E h => ?_) (fun cdv A outer s H vs Q E hr h => ?_)
    · obtain ⟨a, ns, k, rfl, _⟩ := h
      rfl
    obtain ⟨a, ns, k, rfl, hS, k0, k1, q⟩ := h
    refine ⟨_, (pss_cons (ps_set (i := 2) sc_law_spool.nd rfl (Or.inl rfl) (pe_ifExp (pt_cmpR op_lt (pv 1) (pe_callB (kc_len (K := K) rfl) (by rfl) T.len (by decide +kernel) (pa_cons (pv 0) pa_nil)) (nomark _)) (pe_callB call_abs (by rfl) T.abs (by decide +kernel) (pa_cons (pe_ix (k_ixL (K := K) rfl) (pv 0) (pv 1) (fun _ _ => rfl)) pa_nil)) pe_int))
    (pss_one (ps_ret (pe_lst (pa_cons (pe_callB (call_max2 rfl) (by rfl) T.max (by decide +kernel) (pa_cons pe_int (pa_cons (pe_op op_sub (pv 2) (pe_op op_pow pe_int pe_int)) pa_nil))) (pa_cons (pe_op op_add (pe_op op_mul (pe_op op_modN (pv 2) (pe_op op_add (pe_op op_pow pe_int pe_int) pe_int)) pe_int) (pv 1)) (pa_cons pe_int pa_nil))))))), ?_⟩
    dsimp only [tSeq, gName]
    have fin : ∀ cell : Int, 0 ≤ cell → ∃ x y, RB 1000000 x y 0 ∧ x = (if cell - 10 ^ 18 > 0 then cell - 10 ^ 18 else 0) ∧ y = cell.fmod (10 ^ 31 + 33) * 32 + k := by
      intro cell hc
      refine ⟨_, _, ⟨?_, ?_⟩, rfl, rfl⟩
      · split <;> omega
      · have b := fmod_lt (a := cell) (c := 10 ^ 31 + 33) (by decide)
        show 0 ≤ cell.fmod (10 ^ 31 + 33) * 32 + k ∧ cell.fmod (10 ^ 31 + 33) * 32 + k < 2 ^ 200 ∧ (0 : Int) ≤ 0 ∧ (0 : Int) + ((1000000 : Nat) : Int) ≤ 1000000000
        have e36 : (10 : Int) ^ 31 = 10000000000000000000000000000000 := by decide
        have e200 : (2 : Int) ^ 200 = 1606938044258990275541962092341162602522202993782792835301376 := by decide
        omega
    refine with_nx (t := tAsg _ _) (fun σ H' => ∃ cell : Int, 0 ≤ cell ∧ H' = H ∧ σ = [some (.ref a), some (.int k), some (.int cell)]) ?_ (fun rest => ?_)
    · rintro σ H' ⟨cell, hc, rfl, rfl⟩
      obtain ⟨x, y, b, rfl, rfl⟩ := fin cell hc
      refine ⟨.int cell, rfl, 10, 18, rfl, rfl, ⟨by decide, by decide, by decide⟩, _, _, rfl, rfl, _, _, rfl, ?_⟩
      refine ⟨.int cell, rfl, 10, 31, rfl, rfl, ⟨by decide, by decide, by decide⟩, _, _, rfl, rfl, _, _, rfl, rfl, (show (10 : Int) ^ 31 + 33 ≠ 0 by decide), _, _, rfl, rfl, .inr ⟨by decide, by decide⟩, .int k, rfl, _, _, rfl, rfl, (by show 3 ≤ sizeLine; decide), fun p hp => ?_⟩
      exact q p _ _ hp b
    · refine ⟨.int k, rfl, .ref a, rfl, a, _, rfl, .inl hS, k, _, rfl, rfl, _, rfl, ite2 (fun c => ?_) (fun c => ?_)⟩
      · have hk : k < ((ns.map V.int).length : Int) := of_decide_eq_true c
        obtain ⟨v, e, m⟩ := at_mem k0 hk
        obtain ⟨cell, _, rfl⟩ := List.mem_map.mp m
        refine ⟨.ref a, rfl, .int k, rfl, a, _, k, .int cell, rfl, rfl, hS, e, cell, rfl, rest _ _ ⟨_, ?_, rfl, rfl⟩⟩
        split <;> omega
      · exact rest _ _ ⟨0, by decide, rfl, rfl⟩
  refine ⟨f, fd, o, Dok.made z (fun vs H Q E h => ?_)⟩
  obtain ⟨a, ns, k, rfl, hS, k0, k1, q⟩ := h
  exact ⟨a, ns, k, rfl, hS, k0, k1, fun p x y hp b => ⟨H, p, x, y, 0, 1000000, b, rfl, q p _ hp (same_new hp) upd_same⟩⟩
/-- a size from 1 to 200 -/
def sp_size : Sp := fun vs H Q _ => ∃ (p : Addr) (n : Nat), vs = [.ref p] ∧ H p = some (rl n p) ∧ 4 ≤ n ∧ ∀ r H', Sr p n (n - 4) H H' → 1 ≤ r → r ≤ 200 → Q (.int r) H'
theorem ok_size {f : Addr} {fd : FuncData} (o : Own K mg "_law_size" s_law_size ["spool"] f fd) (T : Txt mg) (C_law_reel : Cal P w K mg base CX0 1 "_law_reel" s_law_reel ["spool", "size"] sp_pull) :
    Cal P w K mg base CX0 2 "_law_size" s_law_size ["spool"] sp_size := by
  refine ⟨f, fd, o, ?_⟩
  refine Dok.calm o.F sc_law_size (fun vs H Q E h => ?_) (fun cdv A outer s H vs Q E hr h => ?_)
  · obtain ⟨p, n, rfl, _⟩ := h
    rfl
  obtain ⟨p, n, rfl, hp, n4, k⟩ := h
  refine ⟨_, (pss_one (ps_ret (pe_ix (k_ixL (K := K) rfl) (pe_lst (pa_cons (pe_op op_add pe_int (c_call C_law_reel (hr.mono (by omega)) pass0 (pa_cons (pv 0) (pa_cons pe_int pa_nil)))) (pa_cons (pe_op op_add pe_int (c_call C_law_reel (hr.mono (by omega)) pass0 (pa_cons (pv 0) (pa_cons pe_int pa_nil)))) (pa_cons (pe_op op_add pe_int (c_call C_law_reel (hr.mono (by omega)) pass0 (pa_cons (pv 0) (pa_cons pe_int pa_nil)))) (pa_cons pe_int pa_nil))))) (c_call C_law_reel (hr.mono (by omega)) pass0 (pa_cons (pv 0) (pa_cons pe_int pa_nil))) (fun _ _ => rfl)))), ?_⟩
  refine ⟨.ref p, rfl, p, 5, n, rfl, hp, by omega, by decide, by decide, fun r1 H1 s1 a1 b1 => ⟨1, r1, rfl, rfl, ?_⟩⟩
  refine ⟨.ref p, rfl, p, 11, n - 1, rfl, s1.b, by omega, by decide, by decide, fun r2 H2 s2 a2 b2 => ⟨2, r2, rfl, rfl, ?_⟩⟩
  refine ⟨.ref p, rfl, p, 199, n - 1 - 1, rfl, s2.b, by omega, by decide, by decide, fun r3 H3 s3 a3 b3 => ⟨2, r3, rfl, rfl, (by show 4 ≤ sizeLine; decide), fun l hl => ?_⟩⟩
  have s4 := ((s1.trans s2).trans s3).new (o := .lst [.int (1 + r1), .int (2 + r2), .int (2 + r3), .int 200]) hl
  refine ⟨.ref p, rfl, p, 4, n - 1 - 1 - 1, rfl, s4.b, by omega, by decide, by decide, fun r4 H4 s5 a4 b4 => ?_⟩
  obtain ⟨v, ev, mv⟩ := at_mem (xs := [.int (1 + r1), .int (2 + r2), .int (2 + r3), .int 200]) a4 b4
  obtain ⟨i, rfl, i1, i2⟩ : ∃ i, v = .int i ∧ 1 ≤ i ∧ i ≤ 200 := by
    simp only [List.mem_cons, List.not_mem_nil, or_false] at mv
    rcases mv with rfl | rfl | rfl | rfl <;> exact ⟨_, rfl, by omega, by omega⟩
  have e5 : n - 4 = n - 1 - 1 - 1 - 1 := by omega
  exact ⟨l, _, r4, .int i, rfl, rfl, SqL.of (s5.lst upd_same), ev, k i H4 (by rw [e5]; exact s4.trans s5) i1 i2⟩
end
theorem rising_snoc {m k : Int} : ∀ {fs : List Int} {a : Int}, risingB m a fs = true → (∀ c ∈ fs, c < k) → a < k → k < m - 1 → risingB m a (fs ++ [k]) = true
  | [], a, _, _, h1, h2 => by
    show (decide (a < k) && decide (k < m - 1) && true) = true
    rw [decide_eq_true h1, decide_eq_true h2]
    rfl
  | c :: r, a, h, hc, h1, h2 => by
    rw [risingB_cons] at h
    simp only [Bool.and_eq_true, decide_eq_true_eq] at h
    show (decide (a < c) && decide (c < m - 1) && risingB m c (r ++ [k])) = true
    rw [decide_eq_true h.1.1, decide_eq_true h.1.2, rising_snoc h.2 (fun x hx => hc x (List.mem_cons_of_mem _ hx)) (hc c List.mem_cons_self) h2]
    rfl
section
variable {P : Program} {w : World} {K : PySem.W.Frag} {mg : Str → Option Value} {base : Heap}
/-- a drawn folding of m cells, a new list -/
def sp_folds : Sp := fun vs H Q _ => ∃ (p : Addr) (m : Int) (n : Nat), vs = [.ref p, .int m] ∧ H p = some (rl n p) ∧ 202 ≤ n ∧ 1 ≤ m ∧ m ≤ 200 ∧
  ∀ q H' n' fs, n ≤ n' + 202 → Sr p n n' H H' → H q = none → H' q = some (.lst (fs.map V.int)) → isF m fs = true → Q (.ref q) H'
theorem ok_folds {f : Addr} {fd : FuncData} (o : Own K mg "_law_folds" s_law_folds ["spool", "size"] f fd) (T : Txt mg) (C_law_reel : Cal P w K mg base CX0 1 "_law_reel" s_law_reel ["spool", "size"] sp_pull) :
    Cal P w K mg base CX0 2 "_law_folds" s_law_folds ["spool", "size"] sp_folds := by
  refine ⟨f, fd, o, ?_⟩
  refine Dok.calm o.F sc_law_folds (fun vs H Q E h => ?_) (fun cdv A outer s H vs Q E hr h => ?_)
  · obtain ⟨p, m, n, rfl, _⟩ := h
    rfl
  obtain ⟨p, m, n, rfl, hp, hn, m1, m2, k⟩ := h
  refine ⟨_, (pss_cons (ps_asg (pe_tup (pa_cons (c_call C_law_reel (hr.mono (by omega)) pass0 (pa_cons (pv 0) (pa_cons pe_int pa_nil))) (pa_cons (pe_ix (k_ixL (K := K) rfl) (pe_lst (pa_cons pe_int (pa_cons pe_int pa_nil))) (c_call C_law_reel (hr.mono (by omega)) pass0 (pa_cons (pv 0) (pa_cons pe_int pa_nil))) (fun _ _ => rfl)) pa_nil))) (pg_tup rfl (pgs_cons (pg_name (i := 2) sc_law_folds.nd rfl (Or.inr rfl)) (pgs_cons (pg_name (i := 3) sc_law_folds.nd rfl (Or.inr rfl)) pgs_nil))))
    (pss_one (ps_ret (pe_lc (own := [("crease", 4)]) (g := (gName 4)) (by rfl) sc_law_folds.nd (pi_range1 rfl T.range (pa_cons (pe_op op_sub (pv 1) pe_int) pa_nil)) (blkOk_by (own := [("crease", 4)]) (N := ["spool", "size", "often", "wide", "crease"]) (sc := defScope s_law_folds) (by decide +kernel)) (fun _ _ _ _ _ => (pg_name (i := 4) sc_law_folds.nd rfl (Or.inl rfl))) (fun _ _ _ _ _ => (pts_one (pt_cmpR op_lt (c_call C_law_reel (hr.mono (by omega)) pass0 (pa_cons (pv 0) (pa_cons (pv 3) pa_nil))) (pv 2) (nomark _)))) (fun _ _ _ _ _ => (pv 4)))))), ?_⟩
  -- often, wide
  refine ⟨.ref p, rfl, p, 5, n, rfl, hp, by omega, by decide, by decide, fun r1 H1 s1 a1 b1 => ⟨(by show 2 ≤ sizeLine; decide), fun l hl => ?_⟩⟩
  have s2 := s1.new (o := .lst [.int 4, .int 40]) hl
  refine ⟨.ref p, rfl, p, 2, n - 1, rfl, s2.b, by omega, by decide, by decide, fun r2 H2 s3 a2 b2 => ?_⟩
  obtain ⟨v, ev, mv⟩ := at_mem (xs := [.int 4, .int 40]) a2 b2
  obtain ⟨wd, rfl, w1, w2⟩ : ∃ i, v = .int i ∧ 4 ≤ i ∧ i ≤ 40 := by
    simp only [List.mem_cons, List.not_mem_nil, or_false] at mv
    rcases mv with rfl | rfl <;> exact ⟨_, rfl, by omega, by omega⟩
  refine ⟨l, _, r2, .int wd, rfl, rfl, SqL.of (s3.lst upd_same), ev, (by show 2 ≤ sizeLine; decide), fun t nt => ?_⟩
  have s4 := (s2.trans s3).new (o := .tup [.int r1, .int wd]) nt
  refine ⟨t, _, rfl, SqT.of upd_same, rfl, .int r1, _, rfl, .int wd, [], rfl, rfl, ?_⟩
  generalize upd H2 t (.tup [.int r1, .int wd]) = H3 at s4
  -- the creases
  refine ⟨.int m, rfl, m, 1, rfl, rfl, _, rfl, by omega, by omega, fun D hD => ?_⟩
  have nD : H D = none := s4.free hD
  have e29 : (2 : Int) ^ 29 = 536870912 := by decide
  refine lc_it walk_range (fun i H' => ∃ fs : List Int, Sr p n (n - 2 - i) H H' ∧ H' D = some (.lst (fs.map V.int)) ∧ risingB m (-1) fs = true ∧ (∀ c ∈ fs, c < (i : Int)) ∧ fs.length ≤ i) ⟨[], ?_, upd_same, rfl, fun c hc => (by cases hc), Nat.zero_le _⟩ (fun _ _ _ _ => True.intro) ?_ ?_
  · have e : n - 2 - 0 = n - 1 - 1 := by omega
    rw [e]
    exact s4.new hD
  · rintro i x H4 H4' hi ⟨fs, s5, eD, hR, hc, hl⟩ ⟨rfl, rfl⟩
    have hi' : i < (m - 1).toNat := hi
    refine ⟨rfl, .ref p, rfl, .int wd, rfl, p, wd, n - 2 - i, rfl, s5.b, by omega, by omega, by omega, fun r H5 s6 r0 r1' => ?_⟩
    refine ⟨.int r1, rfl, r, r1, rfl, rfl, _, rfl, ?_⟩
    have e : n - 2 - i - 1 = n - 2 - (i + 1) := by omega
    have s7 := s5.trans s6
    rw [e] at s7
    have eD5 := s6.lst eD
    have e0 : (0 : Int) + (i : Int) = (i : Int) := Int.zero_add _
    refine ite2 (fun _ => ?_) (fun _ => ?_)
    · refine ⟨.int (0 + i), rfl, _, eD5, by rw [List.length_map]; exact long_ok (by omega), fs ++ [(i : Int)], s7.mut nD, ?_, rising_snoc hR hc (by omega) (by omega), fun c hc' => ?_, by simp; omega⟩
      · rw [upd_same, List.map_append, e0]
        rfl
      · rcases List.mem_append.mp hc' with h | h
        · have := hc c h
          omega
        · simp only [List.mem_singleton] at h
          subst h
          omega
    · refine ⟨fs, s7, eD5, hR, fun c hc' => ?_, by omega⟩
      have := hc c hc'
      omega
  · rintro H4 ⟨fs, s5, eD, hR, _, _⟩
    have e2 : (m - 1).toNat ≤ 199 := by omega
    refine k D H4 _ fs (by omega) s5 nD eD ?_
    unfold isF
    rw [decide_eq_true m1, decide_eq_true m2, hR]
    rfl
end
abbrev s_law_walked : Stmt := topS 16
theorem sc_law_walked : FnScope ["size", "creases", "found", "turns", "cell"] ["size", "creases"] (defScope s_law_walked) := ⟨rfl, rfl, rfl, by decide +kernel, rfl, by decide +kernel, by decide +kernel⟩

theorem inV_int (z : Int) (fs : List Int) : inV (.int z) (fs.map V.int) = decide (z ∈ fs) := by
  have e : ∀ y : Int, eqV (.int y) (.int z) = decide (y = z) := fun y => by
    by_cases c : y = z
    · subst c
      simp [eqV]
    · rw [decide_eq_false c]
      simp [eqV, c]
  induction fs with
  | nil => rfl
  | cons y r ih =>
    show (eqV (.int y) (.int z) || inV (.int z) (r.map V.int)) = _
    rw [ih, e]
    by_cases c : y = z
    · simp [c]
    · have c' : ¬ z = y := fun q => c q.symm
      simp [c, c']
section
variable {P : Program} {w : World} {K : PySem.W.Frag} {mg : Str → Option Value} {base : Heap}
/-- the places as the law finds them, a new list -/
def sp_walked : Sp := fun vs H Q _ => ∃ (a : Addr) (m : Int) (fs : List Int), vs = [.int m, .ref a] ∧ H a = some (.lst (fs.map V.int)) ∧ isF m fs = true ∧ ∀ q H', H q = none → Same H H' → H' q = some (.lst ((placesL m fs).map V.int)) → Q (.ref q) H'
theorem ok_walked {f : Addr} {fd : FuncData} (o : Own K mg "_law_walked" s_law_walked ["size", "creases"] f fd) (T : Txt mg) : Cal P w K mg base CX0 1 "_law_walked" s_law_walked ["size", "creases"] sp_walked := by
  refine ⟨f, fd, o, ?_⟩
  refine Dok.calm o.F sc_law_walked (fun vs H Q E h => ?_) (fun cdv A outer s H vs Q E hr h => ?_)
  · obtain ⟨a, m, fs, rfl, _⟩ := h
    rfl
  obtain ⟨a, m, fs, rfl, ea, hF, k⟩ := h
  obtain ⟨m1, m2, hl⟩ := isF_len hF
  refine ⟨_, (pss_cons (ps_set (i := 2) sc_law_walked.nd rfl (Or.inl rfl) (pe_lst (pa_cons pe_int pa_nil)))
    (pss_cons (ps_set (i := 3) sc_law_walked.nd rfl (Or.inl rfl) pe_int)
    (pss_cons (ps_for PassesOwn.never rfl (pi_range2 rfl T.range (pa_cons pe_int (pa_cons (pv 0) pa_nil))) (pg_name (i := 4) sc_law_walked.nd rfl (Or.inl rfl)) (pss_one (ps_if (pt_cmpR (k_inSeq (K := K) rfl) (pe_op op_sub (pv 4) pe_int) (pv 1) rfl) (pss_cons (ps_set (i := 3) sc_law_walked.nd rfl (Or.inl rfl) (pe_op op_add (pv 3) pe_int))
    (pss_one (ps_expr (pe_bm PySem.F.plainAttrs_list PySem.F.slot_list_append PySem.F.type_list_append mt_append (pv 2) (pa_cons (pe_ix (k_ixL (K := K) rfl) (pv 2) (pe_un un_neg pe_int) (fun _ _ => rfl)) pa_nil))))) (pss_one (ps_expr (pe_bm PySem.F.plainAttrs_list PySem.F.slot_list_append PySem.F.type_list_append mt_append (pv 2) (pa_cons (pe_op op_sub (pe_op op_add (pe_ix (k_ixL (K := K) rfl) (pv 2) (pe_un un_neg pe_int) (fun _ _ => rfl)) pe_int) (pe_op op_mul pe_int (pe_op op_modN (pv 3) pe_int))) pa_nil)))))))
    (pss_one (ps_ret (pv 2)))))), ?_⟩
  refine ⟨(by show 1 ≤ sizeLine; decide), fun l nl => ?_⟩
  have s1 := same_new (o := .lst [.int 0]) nl
  refine ⟨.int m, rfl, 1, m, rfl, ⟨by omega, by omega, by omega, by omega⟩, ?_⟩
  refine for_it walk_range (fun i σ H' => ∃ (v : Option V) (tu : Int), σ = [some (.int m), some (.ref a), some (.ref l), some (.int tu), v] ∧ 0 ≤ tu ∧ (stF fs i).2 = 1 - 2 * tu.fmod 2 ∧ Same H H' ∧ H' l = some (.lst (((List.range (i + 1)).map (posF fs)).map V.int))) ⟨none, 0, rfl, by omega, rfl, s1, upd_same⟩ (fun _ _ _ _ _ => True.intro) ?_ ?_
  · rintro i x σ H1 H1' hi ⟨v, tu, rfl, tu0, hw, s3, el⟩ ⟨rfl, rfl⟩
    have hi' : i < (m - 1).toNat := hi
    have e0 : (1 : Int) + (i : Int) - 1 = (i : Int) := by omega
    have em : tu.fmod 2 = tu % 2 := Int.fmod_eq_emod_of_nonneg tu (by decide)
    have em1 : (tu + 1).fmod 2 = (tu + 1) % 2 := Int.fmod_eq_emod_of_nonneg (tu + 1) (by decide)
    have ea1 := s3 _ _ ea
    have el' : H1' l = some (.lst (((List.range i).map (posF fs)).map V.int ++ [.int (posF fs i)])) := by
      rw [el, List.range_succ, List.map_append, List.map_append]
      rfl
    have eL : atI (((List.range i).map (posF fs)).map V.int ++ [.int (posF fs i)]) (-1) = some (.int (posF fs i)) := atI_last _ _
    have app : ∀ z : Int, z = posF fs (i + 1) → Same H (upd H1' l (.lst (((List.range (i + 1)).map (posF fs)).map V.int ++ [.int z]))) ∧ upd H1' l (.lst (((List.range (i + 1)).map (posF fs)).map V.int ++ [.int z])) l = some (.lst (((List.range (i + 1 + 1)).map (posF fs)).map V.int)) := by
      rintro z rfl
      refine ⟨same_mut s3 nl, ?_⟩
      rw [upd_same, List.range_succ (n := i + 1), List.map_append, List.map_append]
      rfl
    have ln : (((List.range (i + 1)).map (posF fs)).map V.int).length < sizeLine := by
      rw [List.length_map, List.length_map, List.length_range]
      exact long_ok (by omega)
    refine ⟨.int (1 + i), rfl, 1 + i, 1, rfl, rfl, ?_⟩
    refine ⟨.ref a, rfl, a, _, rfl, .inl (SqL.of ea1), rfl, (by rw [List.all_map]; exact List.all_eq_true.mpr fun _ _ => rfl), ?_⟩
    have eI : inV (.int ((1 : Int) + (i : Int) - 1)) (fs.map V.int) = decide ((i : Int) ∈ fs) := by rw [e0]; exact inV_int _ _
    refine ⟨decide ((i : Int) ∈ fs), congrArg V.bl eI, ?_⟩
    by_cases c : (i : Int) ∈ fs
    · rw [decide_eq_true c]
      refine iteT ?_
      have e1 : posF fs (i + 1) = posF fs i := by
        unfold posF
        rw [stF, if_pos c]
      have e2 : (stF fs (i + 1)).2 = -(stF fs i).2 := by rw [stF, if_pos c]
      refine ⟨.int tu, rfl, tu, 1, rfl, rfl, ?_⟩
      refine ⟨.ref l, rfl, .inl ⟨rfl, _, SqL.of el'⟩, .ref l, rfl, 1, rfl, l, _, -1, .int (posF fs i), rfl, rfl, SqL.of el', eL, l, _, _, rfl, rfl, el, ln, ?_⟩
      obtain ⟨x1, x2⟩ := app (posF fs i) e1.symm
      exact ⟨_, tu + 1, rfl, by omega, by rw [e2, hw, em, em1]; omega, x1, x2⟩
    · rw [decide_eq_false c]
      refine iteF ?_
      have e1 : posF fs (i + 1) = posF fs i + (stF fs i).2 := by
        unfold posF
        rw [stF, if_neg c]
      have e2 : (stF fs (i + 1)).2 = (stF fs i).2 := by rw [stF, if_neg c]
      refine ⟨.ref l, rfl, .inl ⟨rfl, _, SqL.of el'⟩, .ref l, rfl, 1, rfl, l, _, -1, .int (posF fs i), rfl, rfl, SqL.of el', eL, posF fs i, 1, rfl, rfl, .int tu, rfl, tu, 2, rfl, rfl, (show (2 : Int) ≠ 0 by decide), 2, tu.fmod 2, rfl, rfl, .inl ⟨by decide, by decide⟩, posF fs i + 1, 2 * tu.fmod 2, rfl, rfl, l, _, _, rfl, rfl, el, ln, ?_⟩
      obtain ⟨x1, x2⟩ := app (posF fs i + 1 - 2 * tu.fmod 2) (by rw [e1, hw]; omega)
      exact ⟨_, tu, rfl, tu0, by rw [e2, hw], x1, x2⟩
  · rintro σ H1 ⟨v, tu, rfl, _, _, s3, el⟩
    refine ⟨.ref l, rfl, k l H1 nl s3 ?_⟩
    rw [el]
    have e : (m - 1).toNat + 1 = m.toNat := by omega
    rw [e]
    rfl
end
def KW_places_0_folds_many {α : Type} : List α → List α → List α
  | [], [b0, b1] => [b1, b0]
  | _, _ => []
theorem KW_places_0_folds_many_b (kV doc pm : Value) (an : Option Addr) (cdv ct : Value) (us ws : List Value) (hl : (KW_places_0_folds_many us ws).length = (["many", "folds"] : List Str).length) :
    bindArgs (PySem.W.fnOf "places" "places" (defArgs s_places) (defBody s_places) (defScope s_places) .none kV doc pm an cdv ct) ⟨us, (["folds", "many"] : List Str).zip ws⟩ = pure ((["many", "folds"] : List Str).zip (KW_places_0_folds_many us ws)) := by
  unfold KW_places_0_folds_many at hl ⊢
  split at hl
  · rfl
  · cases hl
theorem KW_places_0_folds_many_r : ∀ {vs : List V} {us : List Value} {zs : List V} {ws : List Value}, Vals vs us → Vals zs ws → Vals (KW_places_0_folds_many vs zs) (KW_places_0_folds_many us ws)
  | _, _, _, _, .nil, .nil => .nil
  | _, _, _, _, .nil, (.cons _ .nil) => .nil
  | _, _, _, _, .nil, (.cons q0 (.cons q1 .nil)) => (.cons q1 (.cons q0 .nil))
  | _, _, _, _, .nil, (.cons _ (.cons _ (.cons _ _))) => .nil
  | _, _, _, _, (.cons _ _), .nil => .nil
  | _, _, _, _, (.cons _ _), (.cons _ .nil) => .nil
  | _, _, _, _, (.cons _ _), (.cons q0 (.cons q1 .nil)) => .nil
  | _, _, _, _, (.cons _ _), (.cons _ (.cons _ (.cons _ _))) => .nil

def KW_stacks_0_folds_many {α : Type} : List α → List α → List α
  | [], [b0, b1] => [b1, b0]
  | _, _ => []
theorem KW_stacks_0_folds_many_b (kV doc pm : Value) (an : Option Addr) (cdv ct : Value) (us ws : List Value) (hl : (KW_stacks_0_folds_many us ws).length = (["many", "folds"] : List Str).length) :
    bindArgs (PySem.W.fnOf "stacks" "stacks" (defArgs s_stacks) (defBody s_stacks) (defScope s_stacks) .none kV doc pm an cdv ct) ⟨us, (["folds", "many"] : List Str).zip ws⟩ = pure ((["many", "folds"] : List Str).zip (KW_stacks_0_folds_many us ws)) := by
  unfold KW_stacks_0_folds_many at hl ⊢
  split at hl
  · rfl
  · cases hl
theorem KW_stacks_0_folds_many_r : ∀ {vs : List V} {us : List Value} {zs : List V} {ws : List Value}, Vals vs us → Vals zs ws → Vals (KW_stacks_0_folds_many vs zs) (KW_stacks_0_folds_many us ws)
  | _, _, _, _, .nil, .nil => .nil
  | _, _, _, _, .nil, (.cons _ .nil) => .nil
  | _, _, _, _, .nil, (.cons q0 (.cons q1 .nil)) => (.cons q1 (.cons q0 .nil))
  | _, _, _, _, .nil, (.cons _ (.cons _ (.cons _ _))) => .nil
  | _, _, _, _, (.cons _ _), .nil => .nil
  | _, _, _, _, (.cons _ _), (.cons _ .nil) => .nil
  | _, _, _, _, (.cons _ _), (.cons q0 (.cons q1 .nil)) => .nil
  | _, _, _, _, (.cons _ _), (.cons _ (.cons _ (.cons _ _))) => .nil

def KW_cells_at_0_place_many_folds {α : Type} : List α → List α → List α
  | [], [b0, b1, b2] => [b1, b2, b0]
  | _, _ => []
theorem KW_cells_at_0_place_many_folds_b (kV doc pm : Value) (an : Option Addr) (cdv ct : Value) (us ws : List Value) (hl : (KW_cells_at_0_place_many_folds us ws).length = (["many", "folds", "place"] : List Str).length) :
    bindArgs (PySem.W.fnOf "cells_at" "cells_at" (defArgs s_cells_at) (defBody s_cells_at) (defScope s_cells_at) .none kV doc pm an cdv ct) ⟨us, (["place", "many", "folds"] : List Str).zip ws⟩ = pure ((["many", "folds", "place"] : List Str).zip (KW_cells_at_0_place_many_folds us ws)) := by
  unfold KW_cells_at_0_place_many_folds at hl ⊢
  split at hl
  · rfl
  · cases hl
theorem KW_cells_at_0_place_many_folds_r : ∀ {vs : List V} {us : List Value} {zs : List V} {ws : List Value}, Vals vs us → Vals zs ws → Vals (KW_cells_at_0_place_many_folds vs zs) (KW_cells_at_0_place_many_folds us ws)
  | _, _, _, _, .nil, .nil => .nil
  | _, _, _, _, .nil, (.cons _ .nil) => .nil
  | _, _, _, _, .nil, (.cons _ (.cons _ .nil)) => .nil
  | _, _, _, _, .nil, (.cons q0 (.cons q1 (.cons q2 .nil))) => (.cons q1 (.cons q2 (.cons q0 .nil)))
  | _, _, _, _, .nil, (.cons _ (.cons _ (.cons _ (.cons _ _)))) => .nil
  | _, _, _, _, (.cons _ _), .nil => .nil
  | _, _, _, _, (.cons _ _), (.cons _ .nil) => .nil
  | _, _, _, _, (.cons _ _), (.cons _ (.cons _ .nil)) => .nil
  | _, _, _, _, (.cons _ _), (.cons q0 (.cons q1 (.cons q2 .nil))) => .nil
  | _, _, _, _, (.cons _ _), (.cons _ (.cons _ (.cons _ (.cons _ _)))) => .nil

abbrev s_law_right : Stmt := topS 17
theorem sc_law_right : FnScope ["spool", "size", "creases", "kept", "due", "least", "most", "spot", "cell", "piles", "turn", "spots", "told", "k", "pile", "here"] ["spool", "size", "creases"] (defScope s_law_right) := ⟨rfl, rfl, rfl, by decide +kernel, rfl, by decide +kernel, by decide +kernel⟩

theorem repr_facts {n : Nat} {d : PyData} (s : prt n d) (l : wt d ≤ 10000000) (hn : n ≤ 60 := by decide) : d.showable = true ∧ SeqAt.shaped d = true ∧ d.shown.length ≤ sizeLine := by
  obtain ⟨x, y⟩ := shown_le s
  refine ⟨x, shaped_of (prt_shp s) hn, ?_⟩
  have e : sizeLine = 16777216 := by rw [sizeLine_eq]
  rw [e]
  omega
def intsD (ns : List Int) : PyData := .list (ns.map PyData.int)
theorem dt_intsL {H : Hp} {q : Addr} {ns : List Int} (e : H q = some (.lst (ns.map V.int))) : Dt H (.ref q) (intsD ns) := .lst e (dt_ints ns)
theorem shp_ints (ns : List Int) : shp 1 (intsD ns) := shp_list fun d hd => by
  obtain ⟨z, _, rfl⟩ := List.mem_map.mp hd
  exact True.intro
theorem prt_ints {ns : List Int} (h : ∀ z ∈ ns, z.natAbs ≤ 1000) : prt 1 (intsD ns) := prt_list fun d hd => by
  obtain ⟨z, hz, rfl⟩ := List.mem_map.mp hd
  show z.natAbs < 10 ^ 31
  exact Nat.lt_of_le_of_lt (h z hz) (by decide)
theorem wt_ints (ns : List Int) : wt (intsD ns) ≤ ns.length * 42 + 2 := by
  have e := wtAll_le (m := 40) (ds := ns.map PyData.int) fun d hd => by
    obtain ⟨z, _, rfl⟩ := List.mem_map.mp hd
    exact Nat.le_refl 40
  rw [List.length_map] at e
  show wtAll (ns.map PyData.int) + 2 ≤ _
  omega
theorem cellsL_bd (fs : List Int) (pl : Int) {n : Nat} (h : n ≤ 200) : ∀ z ∈ cellsL fs pl n, z.natAbs ≤ 1000 := fun z hz => by
  unfold cellsL at hz
  obtain ⟨i, hi, rfl⟩ := List.mem_map.mp hz
  have := List.mem_range.mp (List.mem_filter.mp hi).1
  omega
/-- the piles, told as data -/
def pilesD (f : Nat → List Int) (k : Nat) : PyData := .list ((List.range k).map fun j => intsD (f j))
theorem dt_refs {H : Hp} : ∀ {rs : List Addr} {g : Nat → PyData}, (∀ (j : Nat) (r : Addr), rs[j]? = some r → Dt H (.ref r) (g j)) → DtAll H (rs.map V.ref) ((List.range rs.length).map g)
  | [], _, _ => .nil
  | r :: rs, g, h => by
    rw [List.length_cons, List.range_succ_eq_map, List.map_cons, List.map_cons, List.map_map]
    exact .cons (h 0 r rfl) (dt_refs (g := g ∘ Nat.succ) fun j q e => h (j + 1) q (by rw [List.getElem?_cons_succ]; exact e))
theorem dt_piles {H : Hp} {D : Addr} {rs : List Addr} {f : Nat → List Int} (e : H D = some (.lst (rs.map V.ref))) (h : ∀ (j : Nat) (r : Addr), rs[j]? = some r → H r = some (.lst ((f j).map V.int))) : Dt H (.ref D) (pilesD f rs.length) :=
  .lst e (dt_refs fun j r q => dt_intsL (h j r q))
theorem shp_piles (f : Nat → List Int) (k : Nat) : shp 2 (pilesD f k) := shp_list fun d hd => by
  obtain ⟨j, _, rfl⟩ := List.mem_map.mp hd
  exact shp_ints _
theorem prt_piles {f : Nat → List Int} (k : Nat) (h : ∀ j, ∀ z ∈ f j, z.natAbs ≤ 1000) : prt 2 (pilesD f k) := prt_list fun d hd => by
  obtain ⟨j, _, rfl⟩ := List.mem_map.mp hd
  exact prt_ints (h j)
theorem wt_piles {f : Nat → List Int} {k : Nat} (hk : k ≤ 500) (h : ∀ j, (f j).length ≤ 200) : wt (pilesD f k) ≤ 5000000 := by
  have e := wtAll_le (m := 8402) (ds := (List.range k).map fun j => intsD (f j)) fun d hd => by
    obtain ⟨j, _, rfl⟩ := List.mem_map.mp hd
    have := wt_ints (f j)
    have := h j
    omega
  rw [List.length_map, List.length_range] at e
  show wtAll ((List.range k).map fun j => intsD (f j)) + 2 ≤ _
  omega
section
variable {P : Program} {w : World} {K : PySem.W.Frag} {mg : Str → Option Value} {base : Heap}
/-- [cell for cell in range(size) if due[cell] == spot] -/
theorem here_ok {H : Hp} {Q : VK} {D : Addr} {m z : Int} {fs : List Int} {o0 o2 o3 o5 o6 o8 o9 o10 o11 o12 o13 o14 o15 : Option V} (eD : H D = some (.lst ((placesL m fs).map V.int))) (m1 : 1 ≤ m) (m2 : m ≤ 200)
    (k : ∀ q H', H q = none → Same H H' → H' q = some (.lst ((cellsL fs z m.toNat).map V.int)) → Q (.ref q) H') :
    tLc (iRng1 (tCons (tVar 1) tNil)) (gName 8) (tTest (tOp rEq (tOp (rIxL K) (tVar 4) (tVar 8)) (tVar 7))) (tVar 8) [8]
      [o0, some (.int m), o2, o3, some (.ref D), o5, o6, some (.int z), o8, o9, o10, o11, o12, o13, o14, o15] H Q := by
  refine ⟨.int m, rfl, m, rfl, by omega, by omega, fun L hL => ?_⟩
  refine lc_it walk_range (fun i H' => Same H H' ∧ H' L = some (.lst ((cellsL fs z i).map V.int))) ⟨same_new hL, upd_same⟩ (fun _ _ _ _ => True.intro) ?_ ?_
  · rintro i x H1 H1' hi ⟨s1, e1⟩ ⟨rfl, rfl⟩
    have hi' : i < m.toNat := hi
    have e0 : (0 : Int) + (i : Int) = (i : Int) := Int.zero_add _
    have eA : atI ((placesL m fs).map V.int) (0 + (i : Int)) = some (.int (posF fs i)) := by
      rw [e0]
      refine atI_nat ?_
      unfold placesL
      rw [List.getElem?_map, List.getElem?_map, List.getElem?_range hi']
      rfl
    refine ⟨rfl, .ref D, rfl, .int (0 + i), rfl, D, _, 0 + i, .int (posF fs i), rfl, rfl, SqL.of (s1 _ _ eD), eA, .int z, rfl, rfl, _, rfl, ?_⟩
    by_cases c : posF fs i = z
    · rw [decide_eq_true (congrArg V.int c)]
      refine iteT ⟨.int (0 + i), rfl, _, e1, ?_, same_mut s1 hL, ?_⟩
      · rw [List.length_map]
        exact long_ok (Nat.le_trans (cellsL_len _ _ _) (by omega))
      · rw [upd_same, cellsL_succ, if_pos c, List.map_append, e0]
        rfl
    · rw [decide_eq_false (fun q => c (V.int.inj q))]
      refine iteF ⟨s1, ?_⟩
      rw [e1, cellsL_succ, if_neg c, List.append_nil]
  · rintro H1 ⟨s1, e1⟩
    exact k L H1 hL s1 e1
/-- the law's look at a folding -/
def sp_right : Sp := fun vs H Q _ => ∃ (p a : Addr) (m : Int) (fs : List Int) (n : Nat), vs = [.ref p, .int m, .ref a] ∧ H p = some (rl n p) ∧ 8 ≤ n ∧ H a = some (.lst (fs.map V.int)) ∧ isF m fs = true ∧ ∀ H' n', n ≤ n' + 8 → Sr p n n' H H' → Q (.bl true) H'
theorem ok_right {f : Addr} {fd : FuncData} (o : Own K mg "_law_right" s_law_right ["spool", "size", "creases"] f fd) (T : Txt mg) (C_law_reel : Cal P w K mg base CX0 1 "_law_reel" s_law_reel ["spool", "size"] sp_pull)
    (C_law_walked : Cal P w K mg base CX0 1 "_law_walked" s_law_walked ["size", "creases"] sp_walked) (C_places : Cal P w K mg base CX0 3 "places" s_places ["many", "folds"] sp_places)
    (C_cells_at : Cal P w K mg base CX0 4 "cells_at" s_cells_at ["many", "folds", "place"] sp_cells_at) (C_stacks : Cal P w K mg base CX0 4 "stacks" s_stacks ["many", "folds"] sp_stacks) :
    Cal P w K mg base CX0 5 "_law_right" s_law_right ["spool", "size", "creases"] sp_right := by
  refine ⟨f, fd, o, ?_⟩
  refine Dok.calm o.F sc_law_right (fun vs H Q E h => ?_) (fun cdv A outer s H vs Q E hr h => ?_)
  · obtain ⟨p, a, m, fs, n, rfl, _⟩ := h
    rfl
  obtain ⟨p, a, m, fs, n, rfl, ep, hn, ea, hF, k⟩ := h
  obtain ⟨m1, m2, hl⟩ := isF_len hF
  have e29 : (2 : Int) ^ 29 = 536870912 := by decide
  have e62 : (2 : Int) ^ 62 = 4611686018427387904 := by decide
  refine ⟨_, (pss_cons (ps_set (i := 3) sc_law_right.nd rfl (Or.inl rfl) (pe_callTy call_list_of (by rfl) T.list (by decide +kernel) (pa_cons (pv 2) pa_nil)))
    (pss_cons (ps_set (i := 4) sc_law_right.nd rfl (Or.inr rfl) (c_call C_law_walked (hr.mono (by omega)) pass0 (pa_cons (pv 1) (pa_cons (pv 2) pa_nil))))
    (pss_cons (ps_par (i := 5) (j := 6) (by rfl) sc_law_right.nd rfl rfl (by decide) rfl rfl (pa_cons (pe_callB (kc_min (K := K) rfl rfl) (by rfl) T.min (by decide +kernel) (pa_cons (pv 4) pa_nil)) (pa_cons (pe_callB (kc_max (K := K) rfl rfl) (by rfl) T.max (by decide +kernel) (pa_cons (pv 4) pa_nil)) pa_nil)) (by rfl))
    (pss_cons (ps_setLc (i := 9) (own := [("spot", 7)]) (g := (gName 7)) (by rfl) sc_law_right.nd rfl rfl (sw_true rfl rfl rfl (by decide +kernel)) (pi_range2 rfl T.range (pa_cons (pv 5) (pa_cons (pe_op op_add (pv 6) pe_int) pa_nil))) (blkOk_by (own := [("spot", 7)]) (N := ["spool", "size", "creases", "kept", "due", "least", "most", "spot", "cell", "piles", "turn", "spots", "told", "k", "pile", "here"]) (sc := defScope s_law_right) (by decide +kernel)) (fun _ _ _ _ _ => (pg_name (i := 7) sc_law_right.nd rfl (Or.inr rfl))) (fun _ _ _ _ _ => pts_nil) (fun _ _ _ _ _ => (pe_lc (own := [("cell", 8)]) (g := (gName 8)) (by rfl) sc_law_right.nd (pi_range1 rfl T.range (pa_cons (pv 1) pa_nil)) (blkOk_by (own := [("cell", 8)]) (N := ["spool", "size", "creases", "kept", "due", "least", "most", "spot", "cell", "piles", "turn", "spots", "told", "k", "pile", "here"]) (by rfl)) (fun _ _ _ _ _ => (pg_name (i := 8) sc_law_right.nd rfl (Or.inl rfl))) (fun _ _ _ _ _ => (pts_one (pt_cmpR op_eq (pe_ix (k_ixL (K := K) rfl) (pv 4) (pv 8) (fun _ _ => rfl)) (pv 7) (nomark _)))) (fun _ _ _ _ _ => (pv 8)))))
    (pss_cons (ps_for PassesOwn.never rfl (pi_range1 rfl T.range (pa_cons pe_int pa_nil)) (pg_name (i := 10) sc_law_right.nd rfl (Or.inl rfl)) (pss_cons (ps_par (i := 11) (j := 12) (by rfl) sc_law_right.nd rfl rfl (by decide) rfl rfl (pa_cons (c_call C_places (hr.mono (by omega)) pass0 (pa_cons (pv 1) (pa_cons (pv 2) pa_nil))) (pa_cons (c_call C_stacks (hr.mono (by omega)) pass0 (pa_cons (pv 1) (pa_cons (pv 2) pa_nil))) pa_nil)) (by rfl))
    (pss_cons (ps_if (PW.pt (pw_or (pt_cmpR op_ne (pe_callB (kc_repr (K := K) rfl hr) (by rfl) T.repr (by decide +kernel) (pa_cons (pe_lst (pa_cons (pv 11) (pa_cons (pv 12) pa_nil))) pa_nil)) (pe_callB (kc_repr (K := K) rfl hr) (by rfl) T.repr (by decide +kernel) (pa_cons (pe_lst (pa_cons (pv 4) (pa_cons (pv 9) pa_nil))) pa_nil)) (nomark _)) (pw_or1 (pt_cmpR (k_neD (K := K) rfl hr.r.units) (pv 2) (pv 3) (nomark _))))) (pss_one (ps_ret pe_bl)) pss_nil)
    (pss_cons (ps_expr (pe_bm PySem.F.plainAttrs_list PySem.F.slot_list_append PySem.F.type_list_append mt_append (pv 11) (pa_cons pe_int pa_nil)))
    (pss_cons (ps_for PassesOwn.never rfl (pi_enum (by rfl) T.enumerate (pa_cons (pv 12) pa_nil)) (pg_tup rfl (pgs_cons (pg_name (i := 13) sc_law_right.nd rfl (Or.inl rfl)) (pgs_cons (pg_name (i := 14) sc_law_right.nd rfl (Or.inl rfl)) pgs_nil))) (pss_one (ps_expr (pe_bm PySem.F.plainAttrs_list PySem.F.slot_list_append PySem.F.type_list_append mt_append (pv 14) (pa_cons (pe_op op_sub pe_int (pv 13)) pa_nil)))))
    (pss_cons (ps_if (pt_cmpR (k_neD (K := K) rfl hr.r.units) (pe_lc (own := [("pile", 14)]) (g := (gName 14)) (by rfl) sc_law_right.nd (pi_list (pv 12)) (blkOk_by (own := [("pile", 14)]) (N := ["spool", "size", "creases", "kept", "due", "least", "most", "spot", "cell", "piles", "turn", "spots", "told", "k", "pile", "here"]) (sc := defScope s_law_right) (by decide +kernel)) (fun _ _ _ _ _ => (pg_name (i := 14) sc_law_right.nd rfl (Or.inl rfl))) (fun _ _ _ _ _ => pts_nil) (fun _ _ _ _ _ => (pe_ix (k_ixL (K := K) rfl) (pv 14) (pe_un un_neg pe_int) (fun _ _ => rfl)))) (pe_lc (own := [("k", 13)]) (g := (gName 13)) (by rfl) sc_law_right.nd (pi_range1 rfl T.range (pa_cons (pe_callB (kc_len (K := K) rfl) (by rfl) T.len (by decide +kernel) (pa_cons (pv 9) pa_nil)) pa_nil)) (blkOk_by (own := [("k", 13)]) (N := ["spool", "size", "creases", "kept", "due", "least", "most", "spot", "cell", "piles", "turn", "spots", "told", "k", "pile", "here"]) (sc := defScope s_law_right) (by decide +kernel)) (fun _ _ _ _ _ => (pg_name (i := 13) sc_law_right.nd rfl (Or.inl rfl))) (fun _ _ _ _ _ => pts_nil) (fun _ _ _ _ _ => (pe_op op_sub pe_int (pv 13)))) (nomark _)) (pss_one (ps_ret pe_bl)) pss_nil)
    (pss_one (ps_expr (pe_bm PySem.F.plainAttrs_list PySem.F.slot_list_append PySem.F.type_list_append mt_append (pv 12) (pa_cons (pe_lst pa_nil) pa_nil))))))))))
    (pss_cons (ps_if (PW.pt (pw_or (pt_cmpR (k_neD (K := K) rfl hr.r.units) (c_callN (g := @KW_places_0_folds_many Value) (gV := @KW_places_0_folds_many V) C_places (hr.mono (by omega)) pass0 (pk_cons (pv 2) (pk_cons (pv 1) pk_nil)) KW_places_0_folds_many_b KW_places_0_folds_many_r) (pv 4) (nomark _)) (pw_or1 (pt_cmpR (k_neD (K := K) rfl hr.r.units) (c_callN (g := @KW_stacks_0_folds_many Value) (gV := @KW_stacks_0_folds_many V) C_stacks (hr.mono (by omega)) pass0 (pk_cons (pv 2) (pk_cons (pv 1) pk_nil)) KW_stacks_0_folds_many_b KW_stacks_0_folds_many_r) (pv 9) (nomark _))))) (pss_one (ps_ret pe_bl)) pss_nil)
    (pss_cons (ps_for PassesOwn.never rfl (pi_range1 rfl T.range (pa_cons pe_int pa_nil)) (pg_name (i := 10) sc_law_right.nd rfl (Or.inl rfl)) (pss_cons (ps_set (i := 7) sc_law_right.nd rfl (Or.inr rfl) (pe_ix (k_ixL (K := K) rfl) (pe_lst (pa_cons (pe_op op_sub (pv 5) pe_int) (pa_cons (pe_op op_add (pv 6) pe_int) (pa_cons (pe_op op_pow pe_int pe_int) (pa_cons (pe_op op_add (pv 5) (c_call C_law_reel (hr.mono (by omega)) pass0 (pa_cons (pv 0) (pa_cons (pe_op op_add (pe_op op_sub (pv 6) (pv 5)) pe_int) pa_nil)))) pa_nil))))) (c_call C_law_reel (hr.mono (by omega)) pass0 (pa_cons (pv 0) (pa_cons pe_int pa_nil))) (fun _ _ => rfl)))
    (pss_cons (ps_setLc (i := 15) (own := [("cell", 8)]) (g := (gName 8)) (by rfl) sc_law_right.nd rfl rfl (sw_true rfl rfl rfl (by decide +kernel)) (pi_range1 rfl T.range (pa_cons (pv 1) pa_nil)) (blkOk_by (own := [("cell", 8)]) (N := ["spool", "size", "creases", "kept", "due", "least", "most", "spot", "cell", "piles", "turn", "spots", "told", "k", "pile", "here"]) (sc := defScope s_law_right) (by decide +kernel)) (fun _ _ _ _ _ => (pg_name (i := 8) sc_law_right.nd rfl (Or.inl rfl))) (fun _ _ _ _ _ => (pts_one (pt_cmpR op_eq (pe_ix (k_ixL (K := K) rfl) (pv 4) (pv 8) (fun _ _ => rfl)) (pv 7) (nomark _)))) (fun _ _ _ _ _ => (pv 8)))
    (pss_cons (ps_set (i := 12) sc_law_right.nd rfl (Or.inl rfl) (c_call C_cells_at (hr.mono (by omega)) pass0 (pa_cons (pv 1) (pa_cons (pv 2) (pa_cons (pv 7) pa_nil)))))
    (pss_cons (ps_if (PW.pt (pw_or (pt_cmpR op_ne (pe_callB (kc_repr (K := K) rfl hr) (by rfl) T.repr (by decide +kernel) (pa_cons (pv 12) pa_nil)) (pe_callB (kc_repr (K := K) rfl hr) (by rfl) T.repr (by decide +kernel) (pa_cons (pv 15) pa_nil)) (nomark _)) (pw_or1 (pt_cmpR (k_neD (K := K) rfl hr.r.units) (c_callN (g := @KW_cells_at_0_place_many_folds Value) (gV := @KW_cells_at_0_place_many_folds V) C_cells_at (hr.mono (by omega)) pass0 (pk_cons (pv 7) (pk_cons (pv 1) (pk_cons (pv 2) pk_nil))) KW_cells_at_0_place_many_folds_b KW_cells_at_0_place_many_folds_r) (pv 15) (nomark _))))) (pss_one (ps_ret pe_bl)) pss_nil)
    (pss_cons (ps_expr (pe_bm PySem.F.plainAttrs_list PySem.F.slot_list_append PySem.F.type_list_append mt_append (pv 12) (pa_cons pe_int pa_nil)))
    (pss_one (ps_if (pt_cmpR (k_neD (K := K) rfl hr.r.units) (c_call C_cells_at (hr.mono (by omega)) pass0 (pa_cons (pv 1) (pa_cons (pv 2) (pa_cons (pv 7) pa_nil)))) (pv 15) (nomark _)) (pss_one (ps_ret pe_bl)) pss_nil))))))))
    (pss_one (ps_ret (pe_cmpR (k_eqD (K := K) rfl hr.r.units) (pv 2) (pv 3) (nomark _))))))))))), ?_⟩
  -- kept, due
  refine ⟨.ref a, rfl, a, fs.map V.int, rfl, .inl (SqL.of ea), fun kp nk => ?_⟩
  have s1 := same_new (o := .lst (fs.map V.int)) nk
  refine ⟨.int m, rfl, .ref a, rfl, a, m, fs, rfl, s1 _ _ ea, hF, fun D H2 nD s2 eD => ?_⟩
  -- least, most
  refine ⟨.ref D, rfl, D, placesL m fs, rfl, SqL.of eD, by rw [placesL_len]; omega, fun mn a1 a2 => ?_⟩
  refine ⟨.ref D, rfl, D, placesL m fs, rfl, SqL.of eD, by rw [placesL_len]; omega, fun mx b1 b2 => ⟨_, _, rfl, ?_⟩⟩
  have hmn : IsMin (placesL m fs) mn := ⟨a1, a2⟩
  have hmx : IsMax (placesL m fs) mx := ⟨b1, b2⟩
  have c1 := placesL_bd m2 mn a1
  have c2 := placesL_bd m2 mx b1
  have c3 := a2 mx b1
  -- piles
  refine ⟨.int mn, rfl, .int mx, rfl, mx, 1, rfl, rfl, mn, mx + 1, rfl, ⟨by omega, by omega, by omega, by omega⟩, fun PL nP => ?_⟩
  refine lc_it walk_range (fun j H' => ∃ rs : List Addr, rs.length = j ∧ Same H2 H' ∧ H' PL = some (.lst (rs.map V.ref)) ∧ ∀ (j : Nat) (r : Addr), rs[j]? = some r → r ≠ PL ∧ H' r = some (.lst ((cellsL fs (mn + j) m.toNat).map V.int))) ⟨[], rfl, same_new nP, upd_same, fun j r e => (by simp at e)⟩ (fun _ _ _ _ => True.intro) ?_ ?_
  · rintro j x H3 H3' hj ⟨rs, lr, s3, eP, pr⟩ ⟨rfl, rfl⟩
    refine ⟨rfl, tyes (iteT ?_)⟩
    refine here_ok (z := mn + j) (s3 _ _ eD) m1 m2 fun q H4 nq s4 eq => ?_
    have nPq : q ≠ PL := (ne_of_none eP nq).symm
    refine ⟨_, s4 _ _ eP, ?_, rs ++ [q], ?_, same_mut (s3.trans s4) nP, ?_, fun j' r e => ?_⟩
    · rw [List.length_map]
      have hj' : j < (mx + 1 - mn).toNat := hj
      exact long_ok (by omega)
    · rw [List.length_append, lr]
      rfl
    · rw [upd_same, List.map_append]
      rfl
    · by_cases hj' : j' < rs.length
      · rw [List.getElem?_append_left hj'] at e
        obtain ⟨x1, x2⟩ := pr j' r e
        exact ⟨x1, by rw [upd_ne x1]; exact s4 _ _ x2⟩
      · have ej : j' = j := by
          have := (List.getElem?_eq_some_iff.mp e).1
          simp at this
          omega
        subst ej
        rw [List.getElem?_append_right (by omega), lr, Nat.sub_self] at e
        cases (Option.some.inj e : q = r)
        exact ⟨nPq, by rw [upd_ne nPq]; exact eq⟩
  rintro HB ⟨rs, lr, s3, ePB, prB⟩
  have lr' : rs.length = (mx + 1 - mn).toNat := lr
  have lrs : rs.length ≤ 500 := by omega
  have s2B := s2.trans s3
  have s1B := s1.trans s2B
  have eaB := s1B _ _ ea
  have ekB : HB kp = some (.lst (fs.map V.int)) := s2B _ _ upd_same
  have eDB := s3 _ _ eD
  have pB : ∀ j, ∀ z ∈ cellsL fs (mn + (j : Nat)) m.toNat, z.natAbs ≤ 1000 := fun j => cellsL_bd _ _ (by omega)
  have pl : ∀ j, (cellsL fs (mn + (j : Nat)) m.toNat).length ≤ 200 := fun j => Nat.le_trans (cellsL_len _ _ _) (by omega)
  have dtP : Dt HB (.ref PL) (pilesD (fun j => cellsL fs (mn + j) m.toNat) rs.length) := dt_piles ePB fun j r e => (prB j r e).2
  have pP : ∀ z ∈ placesL m fs, z.natAbs ≤ 1000 := fun z hz => by
    have := placesL_bd m2 z hz
    omega
  have wP := wt_ints (placesL m fs)
  rw [placesL_len] at wP
  have wPl := wt_piles (f := fun j => cellsL fs (mn + j) m.toNat) lrs pl
  have wAll : wt (.list [intsD (placesL m fs), pilesD (fun j => cellsL fs (mn + j) m.toNat) rs.length]) ≤ 10000000 := by
    show wt (intsD (placesL m fs)) + 2 + (wt (pilesD (fun j => cellsL fs (mn + j) m.toNat) rs.length) + 2 + 0) + 2 ≤ _
    omega
  have pAll : prt 3 (.list [intsD (placesL m fs), pilesD (fun j => cellsL fs (mn + j) m.toNat) rs.length]) := prt_list fun d hd => by
    simp only [List.mem_cons, List.not_mem_nil, or_false] at hd
    rcases hd with rfl | rfl
    · exact prt_list (n := 1) fun d hd => by
        obtain ⟨z, hz, rfl⟩ := List.mem_map.mp hd
        show z.natAbs < 10 ^ 31
        exact Nat.lt_of_le_of_lt (pP z hz) (by decide)
    · exact prt_piles _ pB
  have RA := repr_facts pAll wAll
  -- two turns
  refine ⟨2, rfl, by decide, by decide, ?_⟩
  refine for_it walk_range (fun i σ H' => ∃ v10 v11 v12 v13 v14 : Option V, σ = [some (.ref p), some (.int m), some (.ref a), some (.ref kp), some (.ref D), some (.int mn), some (.int mx), none, none, some (.ref PL), v10, v11, v12, v13, v14, none] ∧ Same HB H') ⟨none, none, none, none, none, rfl, Same.refl HB⟩ (fun _ _ _ _ _ => True.intro) ?_ ?_
  · rintro i x σ H4 H4' hi ⟨v10, v11, v12, v13, v14, rfl, s4⟩ ⟨rfl, rfl⟩
    -- spots, told
    refine ⟨.int m, rfl, .ref a, rfl, a, m, fs, rfl, s4 _ _ eaB, hF, fun q H5 nq s5 eq => ?_⟩
    have s45 := s4.trans s5
    refine ⟨.int m, rfl, .ref a, rfl, a, m, fs, rfl, s45 _ _ eaB, hF, fun td H6 ts mn' mx' ntd s6 hmn' hmx' lts etd ⟨nd, pr6⟩ => ⟨_, _, rfl, ?_⟩⟩
    rw [hmn'.eq hmn, hmx'.eq hmx, ← lr'] at lts
    rw [hmn'.eq hmn] at pr6
    have s46 := s45.trans s6
    have dtT : Dt H6 (.ref td) (pilesD (fun j => cellsL fs (mn + j) m.toNat) rs.length) := by
      rw [← lts]
      exact dt_piles etd fun j r e => (pr6 j r e).2.2
    have eq6 := s6 _ _ eq
    -- repr([spots, told]) != repr([due, piles])
    refine ⟨.ref q, rfl, .ref td, rfl, (by show 2 ≤ sizeLine; decide), fun u1 n1 => ?_⟩
    have s7 := same_new (o := .lst [.ref q, .ref td]) n1
    refine ⟨u1, _, rfl, (Dt.lst upd_same (.cons (dt_intsL (s7 _ _ eq6)) (.one (dtT.same s7)))).dp, RA.1, RA.2.1, RA.2.2, ?_⟩
    refine ⟨.ref D, rfl, .ref PL, rfl, (by show 2 ≤ sizeLine; decide), fun u2 n2 => ?_⟩
    have s8 := s7.trans (same_new (o := .lst [.ref D, .ref PL]) n2)
    have s48 := s46.trans s8
    refine ⟨u2, _, rfl, (Dt.lst upd_same (.cons (dt_intsL (s48 _ _ eDB)) (.one (dtP.same s48)))).dp, RA.1, RA.2.1, RA.2.2, ?_⟩
    refine ⟨rfl, _, rfl, iteNS rfl ?_⟩
    -- creases != kept
    refine ⟨.ref a, rfl, .ref kp, rfl, neD (dt_intsL (s48 _ _ eaB)) (dt_intsL (s48 _ _ ekB)) (shp_ints fs) ⟨false, rfl, iteF ?_⟩⟩
    have eq8 := s8 _ _ eq6
    have etd8 := s8 _ _ etd
    have pr8 : ∀ (j : Nat) (r : Addr), ts[j]? = some r → H5 r = none ∧ r ≠ td ∧ upd (upd H6 u1 (.lst [.ref q, .ref td])) u2 (.lst [.ref D, .ref PL]) r = some (.lst ((cellsL fs (mn + j) m.toNat).map V.int)) := fun j r e => ⟨(pr6 j r e).1, (pr6 j r e).2.1, s8 _ _ (pr6 j r e).2.2⟩
    generalize upd (upd H6 u1 (.lst [.ref q, .ref td])) u2 (.lst [.ref D, .ref PL]) = H8 at s48 eq8 etd8 pr8
    -- spots.append(0)
    refine ⟨.ref q, rfl, .inl ⟨rfl, _, SqL.of eq8⟩, q, _, _, rfl, rfl, eq8, ?_, ?_⟩
    · rw [List.length_map, placesL_len]
      exact long_ok (by omega)
    have s9 := same_mut (o := .lst ((placesL m fs).map V.int ++ [.int 0])) s48 (s4.free nq)
    have nq_td : td ≠ q := (ne_of_none eq ntd).symm
    have etd9 : upd H8 q (.lst ((placesL m fs).map V.int ++ [.int 0])) td = some (.lst (ts.map V.ref)) := by rw [upd_ne nq_td]; exact etd8
    have pr9 : ∀ (j : Nat) (r : Addr), ts[j]? = some r → H5 r = none ∧ r ≠ td ∧ upd H8 q (.lst ((placesL m fs).map V.int ++ [.int 0])) r = some (.lst ((cellsL fs (mn + j) m.toNat).map V.int)) := fun j r e => by
      obtain ⟨x1, x2, x3⟩ := pr8 j r e
      refine ⟨x1, x2, ?_⟩
      rw [upd_ne (ne_of_none eq x1).symm]
      exact x3
    generalize upd H8 q (.lst ((placesL m fs).map V.int ++ [.int 0])) = H9 at s9 etd9 pr9
    -- for k, pile in enumerate(told): pile.append(0 - k)
    refine ⟨.ref td, rfl, td, _, rfl, SqL.of etd9, ?_⟩
    refine for_it (walk_enum (xs := ts.map V.ref)) (fun j σ H' => ∃ v13 v14 : Option V, σ = [some (.ref p), some (.int m), some (.ref a), some (.ref kp), some (.ref D), some (.int mn), some (.int mx), none, none, some (.ref PL), some (.int (0 + i)), some (.ref q), some (.ref td), v13, v14, none] ∧ Same HB H' ∧ H' td = some (.lst (ts.map V.ref)) ∧
      ∀ (j' : Nat) (r : Addr), ts[j']? = some r → H5 r = none ∧ r ≠ td ∧ H' r = some (.lst ((cellsL fs (mn + j') m.toNat).map V.int ++ if j' < j then [.int (0 - (j' : Int))] else []))) ⟨v13, v14, rfl, s9, etd9, fun j' r e => by
        obtain ⟨x1, x2, x3⟩ := pr9 j' r e
        rw [if_neg (Nat.not_lt_zero _), List.append_nil]
        exact ⟨x1, x2, x3⟩⟩ (fun j σ H' _ ⟨_, _, _, _, e, _⟩ => SqL.of e) ?_ ?_
    · rintro j y σ H10 H10' hj ⟨v13, v14, rfl, s10, etd10, pr10⟩ ⟨t, y1, y2, rfl, nt, rfl, z1, z2⟩
      cases (Option.some.inj z1 : V.int (j : Nat) = y1)
      obtain ⟨r, er, rfl⟩ : ∃ r, ts[j]? = some r ∧ y2 = .ref r := by
        have z3 : (ts.map V.ref)[j]? = some y2 := z2
        rw [List.getElem?_map] at z3
        cases e : ts[j]? with
        | none => rw [e] at z3; cases z3
        | some r => rw [e] at z3; exact ⟨r, rfl, (Option.some.inj z3).symm⟩
      have s11 := same_new (o := .tup [.int (j : Nat), .ref r]) nt
      obtain ⟨x1, x2, x3⟩ := pr10 j r er
      rw [if_neg (Nat.lt_irrefl _), List.append_nil] at x3
      refine ⟨t, _, rfl, SqT.of upd_same, rfl, _, _, rfl, _, [], rfl, rfl, ?_⟩
      refine ⟨.ref r, rfl, .inl ⟨rfl, _, SqL.of (s11 _ _ x3)⟩, .int (j : Nat), rfl, 0, j, rfl, rfl, r, _, _, rfl, rfl, s11 _ _ x3, ?_, ?_⟩
      · rw [List.length_map]
        exact long_ok (Nat.le_trans (pl j) (by omega))
      refine ⟨_, _, rfl, same_mut (s10.trans s11) (s45.free x1), by rw [upd_ne x2.symm]; exact s11 _ _ etd10, fun j' r' e' => ?_⟩
      obtain ⟨w1, w2, w3⟩ := pr10 j' r' e'
      refine ⟨w1, w2, ?_⟩
      by_cases hjj : j' = j
      · subst hjj
        cases (Option.some.inj (er.symm.trans e') : r = r')
        rw [upd_same, if_pos (Nat.lt_succ_self _)]
      · have ner : r' ≠ r := fun z => hjj (nd_ix nd e' (z ▸ er))
        rw [upd_ne ner]
        have e3 : (j' < j + 1) = (j' < j) := propext ⟨fun h => by omega, fun h => by omega⟩
        simp only [e3]
        exact s11 _ _ w3
    rintro σ H10 ⟨v13', v14', rfl, s10, etd10, pr10⟩
    have pr11 : ∀ (j : Nat) (r : Addr), ts[j]? = some r → H10 r = some (.lst ((cellsL fs (mn + j) m.toNat).map V.int ++ [.int (0 - (j : Int))])) := fun j r e => by
      have x := (pr10 j r e).2.2
      have hj : j < (ts.map V.ref).length := by
        rw [List.length_map]
        exact (List.getElem?_eq_some_iff.mp e).1
      rw [if_pos hj] at x
      exact x
    -- [pile[-1] for pile in told]
    refine ⟨.ref td, rfl, td, rfl, ⟨_, SqL.of etd10⟩, fun D1 hD1 => ?_⟩
    refine lc_it (walk_list (xs := ts.map V.ref)) (fun j H' => Same H10 H' ∧ H' D1 = some (.lst (((List.range j).map fun j : Nat => (0 - (j : Int))).map V.int))) ⟨same_new hD1, upd_same⟩ (fun _ _ _ e => SqL.of (e.1 _ _ etd10)) ?_ ?_
    · rintro j y H11 H11' hj ⟨s11, e11⟩ ⟨rfl, ey⟩
      obtain ⟨r, er, rfl⟩ : ∃ r, ts[j]? = some r ∧ y = .ref r := by
        rw [List.getElem?_map] at ey
        cases e : ts[j]? with
        | none => rw [e] at ey; cases ey
        | some r => rw [e] at ey; exact ⟨r, rfl, (Option.some.inj ey).symm⟩
      have hj2 : j < rs.length := by
        have := (List.getElem?_eq_some_iff.mp er).1
        omega
      refine ⟨rfl, tyes (iteT ?_)⟩
      refine ⟨.ref r, rfl, 1, rfl, r, _, -1, .int (0 - j), rfl, rfl, SqL.of (s11 _ _ (pr11 j r er)), atI_last _ _, _, e11, ?_, same_mut s11 hD1, ?_⟩
      · rw [List.length_map, List.length_map, List.length_range]
        exact long_ok (by omega)
      · rw [upd_same, List.range_succ, List.map_append, List.map_append]
        rfl
    rintro H11 ⟨s11, e11⟩
    have lts2 : (ts.map V.ref).length = rs.length := by rw [List.length_map, lts]
    rw [lts2] at e11
    -- [0 - k for k in range(len(piles))]
    refine ⟨.ref PL, rfl, PL, _, rfl, .inl (SqL.of ((s10.trans s11) _ _ ePB)), _, rfl, by omega, by rw [List.length_map]; omega, fun D2 hD2 => ?_⟩
    refine lc_it walk_range (fun j H' => Same H11 H' ∧ H' D2 = some (.lst (((List.range j).map fun j : Nat => (0 - (j : Int))).map V.int))) ⟨same_new hD2, upd_same⟩ (fun _ _ _ _ => True.intro) ?_ ?_
    · rintro j y H12 H12' hj ⟨s12, e12⟩ ⟨rfl, rfl⟩
      have hj2 : j < ((((rs.map V.ref).length : Nat) : Int)).toNat := hj
      rw [List.length_map] at hj2
      have e0 : (0 : Int) - (0 + (j : Int)) = 0 - (j : Int) := by omega
      refine ⟨rfl, tyes (iteT ?_)⟩
      refine ⟨.int (0 + j), rfl, 0, 0 + j, rfl, rfl, _, e12, ?_, same_mut s12 hD2, ?_⟩
      · rw [List.length_map, List.length_map, List.length_range]
        exact long_ok (by omega)
      · rw [upd_same, List.range_succ, List.map_append, List.map_append]
        show some (HO.lst (_ ++ [V.int (0 - (0 + (j : Int)))])) = _
        rw [e0]
        rfl
    rintro H12 ⟨s12, e12⟩
    have e12' : H12 D2 = some (.lst (((List.range rs.length).map fun j : Nat => (0 - (j : Int))).map V.int)) := by
      rw [e12, List.length_map, Int.toNat_natCast]
    refine neD (dt_intsL (s12 _ _ e11)) (dt_intsL e12') (shp_ints _) ⟨false, rfl, iteF ?_⟩
    -- told.append([])
    have s112 := s11.trans s12
    refine ⟨.ref td, rfl, .inl ⟨rfl, _, SqL.of (s112 _ _ etd10)⟩, Nat.zero_le _, fun u nu => ?_⟩
    have s13 := s112.trans (same_new (o := .lst []) nu)
    refine ⟨td, _, _, rfl, rfl, s13 _ _ etd10, ?_, ?_⟩
    · rw [lts2]
      exact long_ok (by omega)
    exact ⟨_, _, _, _, _, rfl, same_mut (s10.trans s13) (s45.free ntd)⟩
  rintro σ H4 ⟨v10, v11, v12, v13, v14, rfl, s4⟩
  -- places(folds=creases, many=size) != due or stacks(folds=creases, many=size) != piles
  refine ⟨.ref a, rfl, .int m, rfl, a, m, fs, rfl, s4 _ _ eaB, hF, fun q H5 nq s5 eq => ?_⟩
  have s45 := s4.trans s5
  refine ⟨.ref D, rfl, neD (dt_intsL eq) (dt_intsL (s45 _ _ eDB)) (shp_ints _) ⟨false, rfl, iteF ?_⟩⟩
  refine ⟨.ref a, rfl, .int m, rfl, a, m, fs, rfl, s45 _ _ eaB, hF, fun td H6 ts mn' mx' ntd s6 hmn' hmx' lts etd pr6 => ?_⟩
  rw [hmn'.eq hmn, hmx'.eq hmx, ← lr'] at lts
  rw [hmn'.eq hmn] at pr6
  have s46 := s45.trans s6
  have dtT : Dt H6 (.ref td) (pilesD (fun j => cellsL fs (mn + j) m.toNat) rs.length) := by
    rw [← lts]
    exact dt_piles etd fun j r e => (pr6.2 j r e).2.2
  refine ⟨.ref PL, rfl, neD dtT (dtP.same s46) (shp_piles _ _) ⟨false, rfl, iteF ?_⟩⟩
  have s06 := s1B.trans s46
  have ep6 := s06 _ _ ep
  have ea6 := s46 _ _ eaB
  have ek6 := s46 _ _ ekB
  have eD6 := s46 _ _ eDB
  -- four turns
  refine ⟨4, rfl, by decide, by decide, ?_⟩
  refine for_it walk_range (fun i σ H' => ∃ (v7 v10 v11 v12 v13 v14 v15 : Option V) (n' : Nat), σ = [some (.ref p), some (.int m), some (.ref a), some (.ref kp), some (.ref D), some (.int mn), some (.int mx), v7, none, some (.ref PL), v10, v11, v12, v13, v14, v15] ∧ Sr p n n' H6 H' ∧ n ≤ n' + 2 * i) ⟨none, v10, v11, v12, v13, v14, none, n, rfl, Sr.refl ep6, by omega⟩ (fun _ _ _ _ _ => True.intro) ?_ ?_
  · rintro i x σ H7 H7' hi ⟨v7, v10, v11, v12, v13, v14, v15, n', rfl, s7, hn'⟩ ⟨rfl, rfl⟩
    have hi4 : i < 4 := hi
    -- spot
    refine ⟨.int mn, rfl, mn, 1, rfl, rfl, .int mx, rfl, mx, 1, rfl, rfl, 10, 29, rfl, rfl, ⟨by decide, by decide, by decide⟩, .int mn, rfl, .ref p, rfl, .int mx, rfl, .int mn, rfl, mx, mn, rfl, rfl, mx - mn, 1, rfl, rfl, p, mx - mn + 1, n', rfl, s7.b, by omega, by omega, by omega, fun r1 H8 s8 x1 y1 => ⟨mn, r1, rfl, rfl, (by show 4 ≤ sizeLine; decide), fun l hl => ?_⟩⟩
    have s9 := (s7.trans s8).new (o := .lst [.int (mn - 1), .int (mx + 1), .int (10 ^ 29), .int (mn + r1)]) hl
    refine ⟨.ref p, rfl, p, 4, n' - 1, rfl, s9.b, by omega, by decide, by decide, fun r2 H9 s10 x2 y2 => ?_⟩
    obtain ⟨v, ev, mv⟩ := at_mem (xs := [.int (mn - 1), .int (mx + 1), .int (10 ^ 29), .int (mn + r1)]) x2 y2
    obtain ⟨z, rfl⟩ : ∃ z, v = .int z := by
      simp only [List.mem_cons, List.not_mem_nil, or_false] at mv
      rcases mv with rfl | rfl | rfl | rfl <;> exact ⟨_, rfl⟩
    refine ⟨l, _, r2, .int z, rfl, rfl, SqL.of (s10.lst upd_same), ev, ?_⟩
    have s11 := s9.trans s10
    have cb := cellsL_bd fs z (n := m.toNat) (by omega)
    have cl : (cellsL fs z m.toNat).length ≤ 200 := Nat.le_trans (cellsL_len _ _ _) (by omega)
    have wc : wt (intsD (cellsL fs z m.toNat)) ≤ 10000000 := by
      have := wt_ints (cellsL fs z m.toNat)
      omega
    have RC := repr_facts (prt_ints cb) wc
    -- here
    dsimp only [gName, tSeq, tAsg]
    refine here_ok (z := z) (fs := fs) (s11.lst eD6) m1 m2 fun h H10 nh s12 eh => ?_
    -- told
    refine ⟨.int m, rfl, .ref a, rfl, .int z, rfl, a, m, z, fs, rfl, s12 _ _ (s11.lst ea6), hF, fun q H11 nq s13 eq => ?_⟩
    refine ⟨.ref q, rfl, q, _, rfl, (dt_intsL eq).dp, RC.1, RC.2.1, RC.2.2, .ref h, rfl, h, _, rfl, (dt_intsL (s13 _ _ eh)).dp, RC.1, RC.2.1, RC.2.2, rfl, _, rfl, iteNS rfl ?_⟩
    have s14 := s12.trans s13
    refine ⟨.int z, rfl, .int m, rfl, .ref a, rfl, a, m, z, fs, rfl, s14 _ _ (s11.lst ea6), hF, fun q2 H12 nq2 s15 eq2 => ?_⟩
    have s16 := s14.trans s15
    have eh12 := (s13.trans s15) _ _ eh
    refine ⟨.ref h, rfl, neD (dt_intsL eq2) (dt_intsL eh12) (shp_ints _) ⟨false, rfl, iteF ?_⟩⟩
    -- told.append(0)
    have eq12 := s15 _ _ eq
    refine ⟨.ref q, rfl, .inl ⟨rfl, _, SqL.of eq12⟩, q, _, _, rfl, rfl, eq12, ?_, ?_⟩
    · rw [List.length_map]
      exact long_ok (Nat.le_trans cl (by omega))
    have nqH : H6 q = none := s11.free (s12.free nq)
    have s17 := (s11.then s16).mut (o := .lst ((cellsL fs z m.toNat).map V.int ++ [.int 0])) nqH
    have eh13 : upd H12 q (.lst ((cellsL fs z m.toNat).map V.int ++ [.int 0])) h = some (.lst ((cellsL fs z m.toNat).map V.int)) := by
      rw [upd_ne (ne_of_none eh nq)]
      exact eh12
    refine ⟨.int m, rfl, .ref a, rfl, .int z, rfl, a, m, z, fs, rfl, s17.lst ea6, hF, fun q3 H13 nq3 s18 eq3 => ?_⟩
    refine ⟨.ref h, rfl, neD (dt_intsL eq3) (dt_intsL (s18 _ _ eh13)) (shp_ints _) ⟨false, rfl, iteF ?_⟩⟩
    exact ⟨_, _, _, _, _, _, _, _, rfl, s17.then s18, by omega⟩
  · rintro σ H7 ⟨v7, v10, v11, v12, v13, v14, v15, n', rfl, s7, hn'⟩
    have hn2 : n ≤ n' + 2 * 4 := hn'
    exact ⟨.ref a, rfl, .ref kp, rfl, eqD (dt_intsL (s7.lst ea6)) (dt_intsL (s7.lst ek6)) (shp_ints fs) (k H7 n' (by omega) ((Sr.of s06 ep).trans s7))⟩
end
abbrev s_law : Stmt := topS 18
theorem sc_law : FnScope ["script", "k", "spool", "size", "creases", "turn", "other"] ["script"] (defScope s_law) := ⟨rfl, rfl, rfl, by decide +kernel, rfl, by decide +kernel, by decide +kernel⟩

section
variable {P : Program} {w : World} {K : PySem.W.Frag} {mg : Str → Option Value} {base : Heap}
def sp_law (K : PySem.W.Frag) : Sp := fun vs H Q _ => ∃ (a : Addr) (ns : List Int), vs = [.ref a] ∧ SqL K H a (ns.map V.int) ∧ ns.length ≤ 63 ∧ ∀ H', Q (.bl true) H'
theorem ok_law {f : Addr} {fd : FuncData} (o : Own K mg "law" s_law ["script"] f fd) (T : Txt mg) (C_law_spool : Cal P w K mg base CX0 1 "_law_spool" s_law_spool ["script", "k"] (sp_spool K))
    (C_law_size : Cal P w K mg base CX0 2 "_law_size" s_law_size ["spool"] sp_size) (C_law_folds : Cal P w K mg base CX0 2 "_law_folds" s_law_folds ["spool", "size"] sp_folds)
    (C_law_right : Cal P w K mg base CX0 5 "_law_right" s_law_right ["spool", "size", "creases"] sp_right) : Dok P w K mg base CX0 6 f fd ["script"] (sp_law K) := by
  refine Dok.calm o.F sc_law (fun vs H Q E h => ?_) (fun cdv A outer s H vs Q E hr h => ?_)
  · obtain ⟨a, ns, rfl, _⟩ := h
    rfl
  obtain ⟨a, ns, rfl, hS, hl, k⟩ := h
  refine ⟨_, (pss_cons (ps_for PassesOwn.never rfl (pi_range1 rfl T.range (pa_cons (pe_callB (call_max2 rfl) (by rfl) T.max (by decide +kernel) (pa_cons pe_int (pa_cons (pe_callB (call_min2 rfl) (by rfl) T.min (by decide +kernel) (pa_cons pe_int (pa_cons (pe_callB (kc_len (K := K) rfl) (by rfl) T.len (by decide +kernel) (pa_cons (pv 0) pa_nil)) pa_nil))) pa_nil))) pa_nil)) (pg_name (i := 1) sc_law.nd rfl (Or.inl rfl)) (pss_cons (ps_set (i := 2) sc_law.nd rfl (Or.inl rfl) (c_call C_law_spool (hr.mono (by omega)) pass0 (pa_cons (pv 0) (pa_cons (pv 1) pa_nil))))
    (pss_cons (ps_set (i := 3) sc_law.nd rfl (Or.inl rfl) (c_call C_law_size (hr.mono (by omega)) pass0 (pa_cons (pv 2) pa_nil)))
    (pss_cons (ps_set (i := 4) sc_law.nd rfl (Or.inl rfl) (c_call C_law_folds (hr.mono (by omega)) pass0 (pa_cons (pv 2) (pa_cons (pv 3) pa_nil))))
    (pss_one (ps_for PassesOwn.never rfl (pi_range1 rfl T.range (pa_cons pe_int pa_nil)) (pg_name (i := 5) sc_law.nd rfl (Or.inl rfl)) (pss_cons (ps_if (pt_not (pt_val (c_call C_law_right (hr.mono (by omega)) pass0 (pa_cons (pv 2) (pa_cons (pv 3) (pa_cons (pv 4) pa_nil)))))) (pss_one (ps_ret pe_bl)) pss_nil)
    (pss_cons (ps_set (i := 6) sc_law.nd rfl (Or.inl rfl) (c_call C_law_folds (hr.mono (by omega)) pass0 (pa_cons (pv 2) (pa_cons (pv 3) pa_nil))))
    (pss_cons (ps_expr (pe_bm0 PySem.F.plainAttrs_list PySem.F.slot_list_clear PySem.F.type_list_clear mt_clear (pv 4)))
    (pss_one (ps_expr (pe_bm PySem.F.plainAttrs_list PySem.F.slot_list_extend PySem.F.type_list_extend mt_extend (pv 4) (pa_cons (pv 6) pa_nil)))))))))))))
    (pss_one (ps_ret pe_bl))), ?_⟩
  refine ⟨.ref a, rfl, a, _, rfl, .inl hS, _, _, rfl, _, _, rfl, _, rfl, ?_, ?_, ?_⟩
  · split <;> split <;> omega
  · rw [List.length_map]
    split <;> split <;> omega
  have top : ∀ {x : Int}, x = (if (if ((ns.map V.int).length : Int) < 10 then ((ns.map V.int).length : Int) else 10) > 1 then (if ((ns.map V.int).length : Int) < 10 then ((ns.map V.int).length : Int) else 10) else 1) → x.toNat ≤ 11 := by
    intro x e
    rw [e]
    split <;> split <;> omega
  refine for_it walk_range (fun i σ H' => ∃ v1 v2 v3 v4 v5 v6 : Option V, σ = [some (.ref a), v1, v2, v3, v4, v5, v6] ∧ Same H H') ⟨none, none, none, none, none, none, rfl, Same.refl H⟩ (fun _ _ _ _ _ => True.intro) ?_ ?_
  · rintro i x σ H1 H1' hi ⟨v1, v2, v3, v4, v5, v6, rfl, s1⟩ ⟨rfl, rfl⟩
    have hi6 : i < 11 := Nat.lt_of_lt_of_le hi (top rfl)
    refine ⟨.ref a, rfl, .int (0 + i), rfl, a, ns, 0 + i, rfl, s1.seq hS, by omega, by omega, fun p H2 hp s2 e2 => ?_⟩
    have hpH : H p = none := s1.free hp
    have s02 := s1.trans s2
    refine ⟨.ref p, rfl, p, 1000000, rfl, e2, by omega, fun m H3 s3 m1 m2 => ?_⟩
    refine ⟨.ref p, rfl, .int m, rfl, p, m, _, rfl, s3.b, by omega, m1, m2, fun q H4 n4 fs hn4 s4 nq eq hF => ?_⟩
    have nqH : H q = none := s02.free (s3.free nq)
    have s04 := same_old s02 (s3.trans s4) hpH
    refine ⟨_, rfl, by decide, by decide, ?_⟩
    refine for_it walk_range (fun j σ H' => ∃ (v5 v6 : Option V) (n : Nat) (fs : List Int), σ = [some (.ref a), some (.int (0 + i)), some (.ref p), some (.int m), some (.ref q), v5, v6] ∧ Same H H' ∧ H' p = some (rl n p) ∧ 900000 ≤ n + 210 * j ∧ H' q = some (.lst (fs.map V.int)) ∧ isF m fs = true) ⟨v5, v6, n4, fs, rfl, s04, s4.b, by omega, eq, hF⟩ (fun _ _ _ _ _ => True.intro) ?_ ?_
    · rintro j y σ H5 H5' hj ⟨v5, v6, n, fs, rfl, s5, e5, hn, eq5, hF⟩ ⟨rfl, rfl⟩
      have hj3 : j < 3 := hj
      obtain ⟨_, _, hl5⟩ := isF_len hF
      refine ⟨.ref p, rfl, .int m, rfl, .ref q, rfl, p, q, m, fs, n, rfl, e5, by omega, eq5, hF, fun H6 n6 hn6 s6 => ⟨true, rfl, iteF ?_⟩⟩
      refine ⟨.ref p, rfl, .int m, rfl, p, m, n6, rfl, s6.b, by omega, m1, m2, fun o H7 n7 gs hn7 s7 no eo hG => ?_⟩
      have eq6 := s6.lst eq5
      have eq7 := s7.lst eq6
      have noq : o ≠ q := (ne_of_none eq6 no).symm
      obtain ⟨_, _, hl7⟩ := isF_len hG
      have s57 := same_old s5 (s6.trans s7) hpH
      have npq : p ≠ q := fun z => by
        rw [z] at e5
        exact rl_ne_lst (Option.some.inj (e5.symm.trans eq5))
      refine ⟨.ref q, rfl, .inl ⟨rfl, _, SqL.of eq7⟩, q, _, rfl, rfl, eq7, ?_⟩
      have eo8 : upd H7 q (.lst []) o = some (.lst (gs.map V.int)) := by rw [upd_ne noq]; exact eo
      refine ⟨.ref q, rfl, .inl ⟨rfl, _, SqL.of upd_same⟩, .ref o, rfl, q, o, [], gs.map V.int, rfl, rfl, upd_same, eo8, ?_, ?_⟩
      · rw [List.length_map]
        exact Nat.le_of_lt (long_ok (by show 0 + gs.length ≤ 100000; omega))
      refine ⟨_, _, n7, gs, rfl, same_mut (same_mut s57 nqH) nqH, ?_, by omega, upd_same, hG⟩
      rw [upd_ne npq, upd_ne npq]
      exact s7.b
    · rintro σ H5 ⟨v5, v6, n, fs, rfl, s5, _⟩
      exact ⟨_, _, _, _, _, _, rfl, s5⟩
  · rintro σ H1 ⟨v1, v2, v3, v4, v5, v6, rfl, s1⟩
    exact k _
end
theorem all_mk {l : PySem.W.OpenLaw} {w : World} {K : PySem.W.Frag} {h : Heap} {mg : Str → Option Value} {fa : Addr} (X : K.In h) (G : h.Ns mainGlobals mg) (hfa : mg "law" = some (.ref fa))
    {f1 : Addr} {od1 an1 : Option Addr} {sl1 : Array (Option Value)} {oc1 kV1 dc1 pm1 cd1 ct1 : Value}
    {f2 : Addr} {od2 an2 : Option Addr} {sl2 : Array (Option Value)} {oc2 kV2 dc2 pm2 cd2 ct2 : Value}
    {f3 : Addr} {od3 an3 : Option Addr} {sl3 : Array (Option Value)} {oc3 kV3 dc3 pm3 cd3 ct3 : Value}
    {f4 : Addr} {od4 an4 : Option Addr} {sl4 : Array (Option Value)} {oc4 kV4 dc4 pm4 cd4 ct4 : Value}
    {f5 : Addr} {od5 an5 : Option Addr} {sl5 : Array (Option Value)} {oc5 kV5 dc5 pm5 cd5 ct5 : Value}
    {f6 : Addr} {od6 an6 : Option Addr} {sl6 : Array (Option Value)} {oc6 kV6 dc6 pm6 cd6 ct6 : Value}
    {f7 : Addr} {od7 an7 : Option Addr} {sl7 : Array (Option Value)} {oc7 kV7 dc7 pm7 cd7 ct7 : Value}
    {f8 : Addr} {od8 an8 : Option Addr} {sl8 : Array (Option Value)} {oc8 kV8 dc8 pm8 cd8 ct8 : Value}
    {f9 : Addr} {od9 an9 : Option Addr} {sl9 : Array (Option Value)} {oc9 kV9 dc9 pm9 cd9 ct9 : Value}
    {f10 : Addr} {od10 an10 : Option Addr} {sl10 : Array (Option Value)} {oc10 kV10 dc10 pm10 cd10 ct10 : Value}
    {f11 : Addr} {od11 an11 : Option Addr} {sl11 : Array (Option Value)} {oc11 kV11 dc11 pm11 cd11 ct11 : Value}
    {f12 : Addr} {od12 an12 : Option Addr} {sl12 : Array (Option Value)} {oc12 kV12 dc12 pm12 cd12 ct12 : Value}
    {f13 : Addr} {od13 an13 : Option Addr} {sl13 : Array (Option Value)} {oc13 kV13 dc13 pm13 cd13 ct13 : Value}
    {t_MOST_CELLS : Tok}
    (a1 : PySem.W.nsIn K mainGlobals "is_rising" = some (some (.ref f1)))
    (l1 : K.lookup f1 = some ⟨oc1, od1, .func (PySem.W.fnOf "is_rising" "is_rising" (defArgs s_is_rising) (defBody s_is_rising) (defScope s_is_rising) .none kV1 dc1 pm1 an1 cd1 ct1), sl1⟩)
    (c1 : PySem.W.codeIn K cd1 "is_rising" = true)
    (k1 : PySem.W.keepIn K (.ref f1) = true)
    (a2 : PySem.W.nsIn K mainGlobals "is_folding" = some (some (.ref f2)))
    (l2 : K.lookup f2 = some ⟨oc2, od2, .func (PySem.W.fnOf "is_folding" "is_folding" (defArgs s_is_folding) (defBody s_is_folding) (defScope s_is_folding) .none kV2 dc2 pm2 an2 cd2 ct2), sl2⟩)
    (c2 : PySem.W.codeIn K cd2 "is_folding" = true)
    (k2 : PySem.W.keepIn K (.ref f2) = true)
    (a3 : PySem.W.nsIn K mainGlobals "places" = some (some (.ref f3)))
    (l3 : K.lookup f3 = some ⟨oc3, od3, .func (PySem.W.fnOf "places" "places" (defArgs s_places) (defBody s_places) (defScope s_places) .none kV3 dc3 pm3 an3 cd3 ct3), sl3⟩)
    (c3 : PySem.W.codeIn K cd3 "places" = true)
    (k3 : PySem.W.keepIn K (.ref f3) = true)
    (a4 : PySem.W.nsIn K mainGlobals "cells_at" = some (some (.ref f4)))
    (l4 : K.lookup f4 = some ⟨oc4, od4, .func (PySem.W.fnOf "cells_at" "cells_at" (defArgs s_cells_at) (defBody s_cells_at) (defScope s_cells_at) .none kV4 dc4 pm4 an4 cd4 ct4), sl4⟩)
    (c4 : PySem.W.codeIn K cd4 "cells_at" = true)
    (k4 : PySem.W.keepIn K (.ref f4) = true)
    (a5 : PySem.W.nsIn K mainGlobals "stacks" = some (some (.ref f5)))
    (l5 : K.lookup f5 = some ⟨oc5, od5, .func (PySem.W.fnOf "stacks" "stacks" (defArgs s_stacks) (defBody s_stacks) (defScope s_stacks) .none kV5 dc5 pm5 an5 cd5 ct5), sl5⟩)
    (c5 : PySem.W.codeIn K cd5 "stacks" = true)
    (k5 : PySem.W.keepIn K (.ref f5) = true)
    (a6 : PySem.W.nsIn K mainGlobals "walked" = some (some (.ref f6)))
    (l6 : K.lookup f6 = some ⟨oc6, od6, .func (PySem.W.fnOf "walked" "walked" (defArgs s_walked) (defBody s_walked) (defScope s_walked) .none kV6 dc6 pm6 an6 cd6 ct6), sl6⟩)
    (c6 : PySem.W.codeIn K cd6 "walked" = true)
    (k6 : PySem.W.keepIn K (.ref f6) = true)
    (a7 : PySem.W.nsIn K mainGlobals "_law_spool" = some (some (.ref f7)))
    (l7 : K.lookup f7 = some ⟨oc7, od7, .func (PySem.W.fnOf "_law_spool" "_law_spool" (defArgs s_law_spool) (defBody s_law_spool) (defScope s_law_spool) .none kV7 dc7 pm7 an7 cd7 ct7), sl7⟩)
    (c7 : PySem.W.codeIn K cd7 "_law_spool" = true)
    (k7 : PySem.W.keepIn K (.ref f7) = true)
    (a8 : PySem.W.nsIn K mainGlobals "_law_reel" = some (some (.ref f8)))
    (l8 : K.lookup f8 = some ⟨oc8, od8, .func (PySem.W.fnOf "_law_reel" "_law_reel" (defArgs s_law_reel) (defBody s_law_reel) (defScope s_law_reel) .none kV8 dc8 pm8 an8 cd8 ct8), sl8⟩)
    (c8 : PySem.W.codeIn K cd8 "_law_reel" = true)
    (k8 : PySem.W.keepIn K (.ref f8) = true)
    (a9 : PySem.W.nsIn K mainGlobals "_law_size" = some (some (.ref f9)))
    (l9 : K.lookup f9 = some ⟨oc9, od9, .func (PySem.W.fnOf "_law_size" "_law_size" (defArgs s_law_size) (defBody s_law_size) (defScope s_law_size) .none kV9 dc9 pm9 an9 cd9 ct9), sl9⟩)
    (c9 : PySem.W.codeIn K cd9 "_law_size" = true)
    (k9 : PySem.W.keepIn K (.ref f9) = true)
    (a10 : PySem.W.nsIn K mainGlobals "_law_folds" = some (some (.ref f10)))
    (l10 : K.lookup f10 = some ⟨oc10, od10, .func (PySem.W.fnOf "_law_folds" "_law_folds" (defArgs s_law_folds) (defBody s_law_folds) (defScope s_law_folds) .none kV10 dc10 pm10 an10 cd10 ct10), sl10⟩)
    (c10 : PySem.W.codeIn K cd10 "_law_folds" = true)
    (k10 : PySem.W.keepIn K (.ref f10) = true)
    (a11 : PySem.W.nsIn K mainGlobals "_law_walked" = some (some (.ref f11)))
    (l11 : K.lookup f11 = some ⟨oc11, od11, .func (PySem.W.fnOf "_law_walked" "_law_walked" (defArgs s_law_walked) (defBody s_law_walked) (defScope s_law_walked) .none kV11 dc11 pm11 an11 cd11 ct11), sl11⟩)
    (c11 : PySem.W.codeIn K cd11 "_law_walked" = true)
    (k11 : PySem.W.keepIn K (.ref f11) = true)
    (a12 : PySem.W.nsIn K mainGlobals "_law_right" = some (some (.ref f12)))
    (l12 : K.lookup f12 = some ⟨oc12, od12, .func (PySem.W.fnOf "_law_right" "_law_right" (defArgs s_law_right) (defBody s_law_right) (defScope s_law_right) .none kV12 dc12 pm12 an12 cd12 ct12), sl12⟩)
    (c12 : PySem.W.codeIn K cd12 "_law_right" = true)
    (k12 : PySem.W.keepIn K (.ref f12) = true)
    (a13 : PySem.W.nsIn K mainGlobals "law" = some (some (.ref f13)))
    (l13 : K.lookup f13 = some ⟨oc13, od13, .func (PySem.W.fnOf "law" "law" (defArgs s_law) (defBody s_law) (defScope s_law) .none kV13 dc13 pm13 an13 cd13 ct13), sl13⟩)
    (c13 : PySem.W.codeIn K cd13 "law" = true)
    (k13 : PySem.W.keepIn K (.ref f13) = true)
    (z_abs : PySem.W.nsIn K mainGlobals "abs" = some none)
    (z_enumerate : PySem.W.nsIn K mainGlobals "enumerate" = some none)
    (z_len : PySem.W.nsIn K mainGlobals "len" = some none)
    (z_list : PySem.W.nsIn K mainGlobals "list" = some none)
    (z_max : PySem.W.nsIn K mainGlobals "max" = some none)
    (z_min : PySem.W.nsIn K mainGlobals "min" = some none)
    (z_range : PySem.W.nsIn K mainGlobals "range" = some none)
    (z_repr : PySem.W.nsIn K mainGlobals "repr" = some none)
    (z_set : PySem.W.nsIn K mainGlobals "set" = some none)
    (v_MOST_CELLS : PySem.W.nsIn K mainGlobals "MOST_CELLS" = some (some (.int 200 t_MOST_CELLS))) :
    ∃ fd : FuncData, (∀ (s : Shared) (v : Value), BindsTo s fd ⟨[v], []⟩ [("script", v)]) ∧ ∀ base : Heap, K.In base → base.Ns mainGlobals mg → Dok l.prog w K mg base CX0 6 fa fd ["script"] (sp_law K) := by
  have e := hfa.symm.trans (PySem.W.mg_of X G a13)
  cases e
  have T : Txt mg := { abs := PySem.W.mg_none_of X G z_abs, enumerate := PySem.W.mg_none_of X G z_enumerate, len := PySem.W.mg_none_of X G z_len, list := PySem.W.mg_none_of X G z_list, max := PySem.W.mg_none_of X G z_max, min := PySem.W.mg_none_of X G z_min, range := PySem.W.mg_none_of X G z_range, repr := PySem.W.mg_none_of X G z_repr, set := PySem.W.mg_none_of X G z_set, c_MOST_CELLS := ⟨_, PySem.W.mg_of X G v_MOST_CELLS⟩ }
  have o_is_rising : Own K mg "is_rising" s_is_rising ["numbers", "end"] f1 _ := ⟨fun_mk l1 c1 k1, PySem.W.mg_of X G a1, (fun_mk (st := s_is_rising) l1 c1 k1).binds (ps := ["numbers", "end"]) fun _ _ _ _ _ _ us hl => match us, hl with | [_, _], _ => rfl⟩
  have o_is_folding : Own K mg "is_folding" s_is_folding ["many", "folds"] f2 _ := ⟨fun_mk l2 c2 k2, PySem.W.mg_of X G a2, (fun_mk (st := s_is_folding) l2 c2 k2).binds (ps := ["many", "folds"]) fun _ _ _ _ _ _ us hl => match us, hl with | [_, _], _ => rfl⟩
  have o_places : Own K mg "places" s_places ["many", "folds"] f3 _ := ⟨fun_mk l3 c3 k3, PySem.W.mg_of X G a3, (fun_mk (st := s_places) l3 c3 k3).binds (ps := ["many", "folds"]) fun _ _ _ _ _ _ us hl => match us, hl with | [_, _], _ => rfl⟩
  have o_cells_at : Own K mg "cells_at" s_cells_at ["many", "folds", "place"] f4 _ := ⟨fun_mk l4 c4 k4, PySem.W.mg_of X G a4, (fun_mk (st := s_cells_at) l4 c4 k4).binds (ps := ["many", "folds", "place"]) fun _ _ _ _ _ _ us hl => match us, hl with | [_, _, _], _ => rfl⟩
  have o_stacks : Own K mg "stacks" s_stacks ["many", "folds"] f5 _ := ⟨fun_mk l5 c5 k5, PySem.W.mg_of X G a5, (fun_mk (st := s_stacks) l5 c5 k5).binds (ps := ["many", "folds"]) fun _ _ _ _ _ _ us hl => match us, hl with | [_, _], _ => rfl⟩
  have o_walked : Own K mg "walked" s_walked ["steps", "folds"] f6 _ := ⟨fun_mk l6 c6 k6, PySem.W.mg_of X G a6, (fun_mk (st := s_walked) l6 c6 k6).binds (ps := ["steps", "folds"]) fun _ _ _ _ _ _ us hl => match us, hl with | [_, _], _ => rfl⟩
  have o_law_spool : Own K mg "_law_spool" s_law_spool ["script", "k"] f7 _ := ⟨fun_mk l7 c7 k7, PySem.W.mg_of X G a7, (fun_mk (st := s_law_spool) l7 c7 k7).binds (ps := ["script", "k"]) fun _ _ _ _ _ _ us hl => match us, hl with | [_, _], _ => rfl⟩
  have o_law_reel : Own K mg "_law_reel" s_law_reel ["spool", "size"] f8 _ := ⟨fun_mk l8 c8 k8, PySem.W.mg_of X G a8, (fun_mk (st := s_law_reel) l8 c8 k8).binds (ps := ["spool", "size"]) fun _ _ _ _ _ _ us hl => match us, hl with | [_, _], _ => rfl⟩
  have o_law_size : Own K mg "_law_size" s_law_size ["spool"] f9 _ := ⟨fun_mk l9 c9 k9, PySem.W.mg_of X G a9, (fun_mk (st := s_law_size) l9 c9 k9).binds (ps := ["spool"]) fun _ _ _ _ _ _ us hl => match us, hl with | [_], _ => rfl⟩
  have o_law_folds : Own K mg "_law_folds" s_law_folds ["spool", "size"] f10 _ := ⟨fun_mk l10 c10 k10, PySem.W.mg_of X G a10, (fun_mk (st := s_law_folds) l10 c10 k10).binds (ps := ["spool", "size"]) fun _ _ _ _ _ _ us hl => match us, hl with | [_, _], _ => rfl⟩
  have o_law_walked : Own K mg "_law_walked" s_law_walked ["size", "creases"] f11 _ := ⟨fun_mk l11 c11 k11, PySem.W.mg_of X G a11, (fun_mk (st := s_law_walked) l11 c11 k11).binds (ps := ["size", "creases"]) fun _ _ _ _ _ _ us hl => match us, hl with | [_, _], _ => rfl⟩
  have o_law_right : Own K mg "_law_right" s_law_right ["spool", "size", "creases"] f12 _ := ⟨fun_mk l12 c12 k12, PySem.W.mg_of X G a12, (fun_mk (st := s_law_right) l12 c12 k12).binds (ps := ["spool", "size", "creases"]) fun _ _ _ _ _ _ us hl => match us, hl with | [_, _, _], _ => rfl⟩
  have o_law : ∀ fd, Fun K "law" "law" s_law fa fd → Own K mg "law" s_law ["script"] fa fd := fun fd F => ⟨F, PySem.W.mg_of X G a13, F.binds (ps := ["script"]) fun _ _ _ _ _ _ us hl => match us, hl with | [_], _ => rfl⟩
  refine ⟨PySem.W.fnOf "law" "law" (defArgs s_law) (defBody s_law) (defScope s_law) .none kV13 dc13 pm13 an13 cd13 ct13, fun s v => .of_eq rfl, fun base _ _ => ?_⟩
  have o := o_law _ (fun_mk (st := s_law) l13 c13 k13)
  have C_reel := ok_pull (P := l.prog) (w := w) (base := base) o_law_reel
  have C_spool := ok_spool (P := l.prog) (w := w) (base := base) o_law_spool T
  have C_size := ok_size o_law_size T C_reel
  have C_folds := ok_folds o_law_folds T C_reel
  have C_walked := ok_walked (P := l.prog) (w := w) (base := base) o_law_walked T
  have C_isr := ok_is_rising (P := l.prog) (w := w) (base := base) o_is_rising T
  have C_isf := ok_is_folding o_is_folding T C_isr
  have C_pwalk := ok_pwalk (P := l.prog) (w := w) (base := base) o_walked T
  have C_places := ok_places o_places T C_isf C_pwalk
  have C_cells_at := ok_cells_at o_cells_at T C_places
  have C_stacks := ok_stacks o_stacks T C_places
  exact ok_law o T C_spool C_size C_folds (ok_right o_law_right T C_reel C_walked C_places C_cells_at C_stacks)
theorem walk {l : PySem.W.OpenLaw} {q : Program} {loose : List Str} {XP : (Str → Option Value) → Heap → Prop} {YP : World → Heap → Prop} {d : DefRec} {K : Params → PySem.W.Frag} (hn : l.most = some 63) (hdf : d.params.defaults = [])
    (hY : ∀ (w : World) (h : Heap), YP w h → (K w.params).In h)
    (F : ∀ (w : World) (mg : Str → Option Value) (fa : Addr) (h : Heap), (K w.params).In h → h.Ns mainGlobals mg → mg d.name = some (.ref fa) →
      ∃ fd : FuncData, (∀ (s : Shared) (u : Value), BindsTo s fd ⟨[u], []⟩ [("script", u)]) ∧ ∀ base : Heap, (K w.params).In base → base.Ns mainGlobals mg → Dok l.prog w (K w.params) mg base CX0 6 fa fd ["script"] (sp_law (K w.params))) :
    PySem.W.WalkO q loose XP YP l.row.toRowW d [] (fun f vs => PySem.call f vs) :=
  walkX (n := 63) (k := 6) (x := "script") (sp := fun w => sp_law (K w.params)) hn (by decide) hdf ⟨rfl, ⟨rfl, by decide, by decide⟩⟩ hY F (fun _ _ a ns hl hS => ⟨a, ns, rfl, hS, hl, fun _ => rfl⟩)
end Lw
open PySem PySem.W PyProof.Rows in
set_option maxRecDepth 100000 in
set_option maxHeartbeats 0 in
theorem PySem.Challenge.cw_pleatpunch_k12_where_cells_lie_holds : PySem.Challenge.rw_pleatpunch_k12_where_cells_lie.Holds := by
  w_on; o_law; k_head; (case hw => w_witness2)
  k_fill
  refine Lw.walk (l := PySem.Challenge.rw_pleatpunch_k12_where_cells_lie) rfl rfl (fun w h Y => PySem.W.kIn_of Y) ?F
  case F =>
    intro w mg fa h KX G hmg
    refine' Lw.all_mk KX G hmg ?a1 ?l1 ?c1 ?k1 ?a2 ?l2 ?c2 ?k2 ?a3 ?l3 ?c3 ?k3 ?a4 ?l4 ?c4 ?k4 ?a5 ?l5 ?c5 ?k5 ?a6 ?l6 ?c6 ?k6 ?a7 ?l7 ?c7 ?k7 ?a8 ?l8 ?c8 ?k8 ?a9 ?l9 ?c9 ?k9 ?a10 ?l10 ?c10 ?k10 ?a11 ?l11 ?c11 ?k11 ?a12 ?l12 ?c12 ?k12 ?a13 ?l13 ?c13 ?k13 ?z_abs ?z_enumerate ?z_len ?z_list ?z_max ?z_min ?z_range ?z_repr ?z_set ?v_MOST_CELLS
    (case a1 => k_is)
    (case l1 => k_is)
    (case c1 => k_is)
    (case k1 => k_is)
    (case a2 => k_is)
    (case l2 => k_is)
    (case c2 => k_is)
    (case k2 => k_is)
    (case a3 => k_is)
    (case l3 => k_is)
    (case c3 => k_is)
    (case k3 => k_is)
    (case a4 => k_is)
    (case l4 => k_is)
    (case c4 => k_is)
    (case k4 => k_is)
    (case a5 => k_is)
    (case l5 => k_is)
    (case c5 => k_is)
    (case k5 => k_is)
    (case a6 => k_is)
    (case l6 => k_is)
    (case c6 => k_is)
    (case k6 => k_is)
    (case a7 => k_is)
    (case l7 => k_is)
    (case c7 => k_is)
    (case k7 => k_is)
    (case a8 => k_is)
    (case l8 => k_is)
    (case c8 => k_is)
    (case k8 => k_is)
    (case a9 => k_is)
    (case l9 => k_is)
    (case c9 => k_is)
    (case k9 => k_is)
    (case a10 => k_is)
    (case l10 => k_is)
    (case c10 => k_is)
    (case k10 => k_is)
    (case a11 => k_is)
    (case l11 => k_is)
    (case c11 => k_is)
    (case k11 => k_is)
    (case a12 => k_is)
    (case l12 => k_is)
    (case c12 => k_is)
    (case k12 => k_is)
    (case a13 => k_is)
    (case l13 => k_is)
    (case c13 => k_is)
    (case k13 => k_is)
    (case z_abs => k_is)
    (case z_enumerate => k_is)
    (case z_len => k_is)
    (case z_list => k_is)
    (case z_max => k_is)
    (case z_min => k_is)
    (case z_range => k_is)
    (case z_repr => k_is)
    (case z_set => k_is)
    (case v_MOST_CELLS => k_is)


