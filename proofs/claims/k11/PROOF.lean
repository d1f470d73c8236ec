import PyProof.Rows.All
import Wide.All
import OpenK.AllK
import Wide.FinOn
import HandS.Base
import HandS.Call
import HandS.List
import HandS.Comp
import HandS.Ends
import HandS.Dict
import HandS.Iter
import HandS.Text
import HandS.Words
import HandS.WordsList
import HandS.Exc
import HandS.TryOnly
import HandS.ExcOwn
import HandS.IsInst
import HandS.Zip
import HandS.Walk
import HandS.Wide
import HandS.Flow
import HandS.Style
import HandS.FStr
import HandS.StrMore
import HandS.Star
import HandS.Conv
import PyProof.ReprRoads
import PyProof.SetRoads
import HandS.ExcIs
import KE.KTryMore
import HandS.WordsExc
import HandS.ExcValue
import HandS.SetFor
import HandS.SortInts
import HandS.Strs
import PySem.Challenge.RW_pleatpunch_k11_foldings_judged
set_option Elab.async false
set_option linter.all false
set_option maxRecDepth 100000
set_option maxHeartbeats 4000000

namespace Xi
open PySem PySem.Spec PyProof.Rows L2

/-! ## room for calls, and nothing is being written out -/
structure Rm (k : Nat) (A : Around) : Prop where
  g : A.guards = some []
  r : Room k A
theorem Rm.mono {j k : Nat} {A : Around} (h : Rm k A) (l : j ≤ k) : Rm j A := ⟨h.g, h.r.mono l⟩

/-- what a def keeps, where nothing is being written out -/
structure Dok (P : Program) (w : World) (K : PySem.W.Frag) (mg : Str → Option Value) (base : Heap) (CX : CXT) (k : Nat) (f : Addr) (fd : FuncData) (ps : List Str) (sp : Sp) : Prop where
  len : ∀ vs H Q E, sp vs H Q E → vs.length = ps.length
  run : ∀ (A : Around) (outer : List Env) (s : Shared) (H : Hp) (args : Args) (us : List Value) (vs : List V) (Q : VK) (E : XK),
    Rm k A → Env0 P w K mg base A outer s H → BindsTo s fd args (ps.zip us) → Vals vs us → sp vs H Q E → codeAny (model P w) A (.call (.ref f) args) (CR CX outer P w H s Q E) s

section
variable {P : Program} {w : World} {K : PySem.W.Frag} {mg : Str → Option Value} {base : Heap} {CX : CXT} {k j : Nat} {f : Addr} {fd : FuncData} {ps : List Str} {sp sp' : Sp}
theorem Dok.mono (F : Dok P w K mg base CX j f fd ps sp) (h : j ≤ k) : Dok P w K mg base CX k f fd ps sp :=
  ⟨F.len, fun A outer s H args us vs Q E hr => F.run A outer s H args us vs Q E (hr.mono h)⟩
theorem Dok.imp (F : Dok P w K mg base CX k f fd ps sp) (h : ∀ vs H Q E, sp' vs H Q E → sp vs H Q E) : Dok P w K mg base CX k f fd ps sp' :=
  ⟨fun vs H Q E q => F.len vs H Q E (h _ _ _ _ q), fun A outer s H args us vs Q E hr he hb hv hs => F.run A outer s H args us vs Q E hr he hb hv (h _ _ _ _ hs)⟩

theorem Dok.body {x qual : Str} {st : Stmt} {N : List Str} (F : Fun K x qual st f fd) (S : FnScope N ps (defScope st)) (len : ∀ vs H Q E, sp vs H Q E → vs.length = ps.length)
    (hb : ∀ (cdv : Value) (A : Around) (outer : List Env) (s : Shared) (H : Hp) (vs : List V) (Q : VK) (E : XK), Rm k (A.deeper (envOfC qual (defScope st) s.heap.objs.size f cdv)) → sp vs H Q E →
      ∃ t, PSs (cxOf CX P w K mg base N qual (defScope st) f cdv A outer s H E) (defBody st) t ∧ t { nx := fun _ H' => Q .non H', rt := Q } (start N vs) H) : Dok P w K mg base CX (k + 1) f fd ps sp := by
  obtain ⟨oc, od, kV, doc, pm, an, cdv, ct, osl, rfl, lk, hcd⟩ := F.ex
  constructor
  · exact len
  intro A outer s H args us vs Q E hr e0 hbd r hsp
  have hl := len _ _ _ _ hsp
  have KX : K.In s.heap := e0.mod.kin.keeps fun b o e => (e0.bs b o e).1
  have lim := e0.mod.nolimit.keeps (h' := s.heap) fun b o e => (e0.bs b o e).1
  have hkind : ∀ y ∈ ps.zip us, (defScope st).names.lookup y.1 = some .local ∨ ((defScope st).names.lookup y.1 = some .cell ∧ ((cellsFrom (s.heap.objs.size + 1) (defScope st).names []).lookup y.1).isSome = true) := by
    rintro ⟨n, v⟩ hy
    have q := S.par n (List.of_mem_zip hy).1
    cases q with
    | inl q => exact Or.inl q
    | inr q => exact Or.inr ⟨q, PySem.W.cellsFrom_some _ _ _ (Or.inl q)⟩
  refine codeAny_call_function hr.r.depth (KX _ _ lk) rfl S.co S.gen rfl (PySem.W.codeRec_of KX hcd) (hbd _ _ _ _ ?_)
  refine wpAny_newFunctionEnv_cells S.kind hkind ?_
  intro env he s1 x
  subst he
  refine ⟨lim.keeps x.toInCall.keep, ?_⟩
  refine codeAny_func ?_
  obtain ⟨t, ht, hq⟩ := hb cdv A outer s H vs Q E ⟨hr.g, hr.r.deeper _⟩ hsp
  have I := inv_start (CX := CX) (P := P) (w := w) (K := K) (mg := mg) (base := base) (f := f) (E := E) S hr.r.hd e0 hl r x
  refine wpAny_mono (ht.run [] s1 (start N vs) H _ I hq) ?_ fun e s' hs => hs
  intro fl s' hs
  cases fl with
  | ret u =>
    obtain ⟨v, σ', H', J, rv, q⟩ := hs
    exact ⟨v, H', J.os, J.bare, J.base, J.hok, rv, q⟩
  | next =>
    obtain ⟨σ', H', J, q⟩ := hs
    exact ⟨V.non, H', J.os, J.bare, J.base, J.hok, rfl, q⟩
  | brk =>
    obtain ⟨_, _, _, q⟩ := hs
    exact q.elim
  | cont =>
    obtain ⟨_, _, _, q⟩ := hs
    exact q.elim
end

/-! ## calls -/
section
variable {X : Cx} {CX : CXT} {k : Nat} {f C : Addr} {fd : FuncData} {ps : List Str} {sp : Sp} {dvs : List V} {ds : List Value} {E : XK} {x m : Str} {p pos apos : Pos} {e o : Expr} {es : List Expr} {ta : TE} {t tk : TA} {kws : List Keyword} {ks : List Str}
  {g : List Value → List Value → List Value} {gV : List V → List V → List V}
theorem Dok.after (F : Dok X.prog X.w X.K X.mg X.base CX k f fd ps sp) (hr : Rm k X.A) (hx : Passes CX X E) {pins : List (Addr × Obj)} {σ : L2.St} {H : Hp} {s : Shared} {Q : VK} {args : Args} {us : List Value} {vs : List V}
    (I : Inv X pins σ H s) (r : Vals vs us) (hb : BindsTo s fd args (ps.zip us)) (h : sp vs H Q E) : codeAny (model X.prog X.w) X.A (.call (.ref f) args) (fun r s' => match r with | .ok (.ret u) => EP X pins σ Q u s' | .ok _ => False | .error e => X.xe e s') s := by
  refine codeAny_mono (F.run X.A X.stack s H args us vs Q E hr I.env0 hb r h) ?_
  intro r s' hq
  cases r with
  | error e => exact hx pins σ H s e s' I hq
  | ok fl =>
    cases fl with
    | ret u => exact I.after hq
    | next => exact hq.elim
    | brk => exact hq.elim
    | cont => exact hq.elim
theorem ends {M : Model} {A : Around} {Q E : Value → Shared → Prop} {v : Value} {us : List Value} {kw : List (Str × Value)} {s : Shared}
    (h : codeAny M A (.call v ⟨us, kw⟩) (fun r s' => match r with | .ok (.ret u) => Q u s' | .ok _ => False | .error e => E e s') s) : wpAny M A (call v us kw) Q E s := by
  refine wpAny_call (codeAny_mono h ?_)
  intro r s' hq
  cases r with
  | error e => exact hq
  | ok fl => cases fl <;> exact hq
/-- f(a, ..) -/
theorem d_call (F : Dok X.prog X.w X.K X.mg X.base CX k f fd ps sp) (hr : Rm k X.A) (hg : Gl X x) (hm : X.mg x = some (.ref f)) (hk : PySem.W.keepIn X.K (.ref f) = true) (hb : Binds X.K fd ps ds) (hd : Vals dvs ds) (hx : Passes CX X E)
    (ha : PA X (e :: es) t) (hdb : (x == ("__debug__" : Str)) = false := by decide) (he : starEach (e :: es) X.env = (false, eval e X.env) :: starEach es X.env := by rfl) (hpl : (backTo pos (starEach es X.env)).any (·.1) = false := by rfl) :
    PE X (.Call (.Name x p) (e :: es) [] pos) (tCall sp dvs E t) := by
  constructor
  intro pins s σ H Q I h
  refine wpAny_Call_Name_kw (ld_glob I hg hm ?_ hdb)
  refine PySem.W.callWith_K (h₀ := X.base) I.ok.mod.kin hk (thn (ha.run pos pins s σ H _ I h) ?_) he hpl
  rintro us s1 ⟨vs, H1, I1, r, q⟩
  refine ⟨I1.kIn, ?_⟩
  have r2 : Vals (vs ++ dvs) (us ++ ds) := r.append hd
  refine ends (F.after hr hx I1 r2 (hb s1 us I1.kIn ?_) q)
  rw [← r2.length]
  exact F.len _ _ _ _ q
/-- f() -/
theorem d_call0 (F : Dok X.prog X.w X.K X.mg X.base CX k f fd ps sp) (hr : Rm k X.A) (hg : Gl X x) (hm : X.mg x = some (.ref f)) (hk : PySem.W.keepIn X.K (.ref f) = true) (hb : Binds X.K fd ps ds) (hd : Vals dvs ds) (hx : Passes CX X E)
    (hdb : (x == ("__debug__" : Str)) = false := by decide) : PE X (.Call (.Name x p) [] [] pos) (tCall sp dvs E tNil) := by
  constructor
  intro pins s σ H Q I h
  refine wpAny_Call_Name_kw (ld_glob I hg hm ?_ hdb)
  refine PySem.W.callWith_K0 I.kIn hk ?_
  have r2 : Vals ([] ++ dvs) ([] ++ ds) := Vals.append .nil hd
  refine ends (F.after hr hx I r2 (hb s [] I.kIn ?_) h)
  rw [← r2.length]
  exact F.len _ _ _ _ h
/-- f(a, .., k = v, ..) -/
theorem d_callK (F : Dok X.prog X.w X.K X.mg X.base CX k f fd ps sp) (hr : Rm k X.A) (hg : Gl X x) (hm : X.mg x = some (.ref f)) (hk : PySem.W.keepIn X.K (.ref f) = true) (hb : KBinds X.K fd ps ks g gV) (hx : Passes CX X E)
    (ha : PA X (e :: es) t) (hkw : PK X kws tk) (hall : (backToKw pos (keywordEach kws X.env)).all (·.1.isSome) = true := by rfl) (hks : (backToKw pos (keywordEach kws X.env)).filterMap (·.1) = ks := by rfl)
    (hdb : (x == ("__debug__" : Str)) = false := by decide) (he : starEach (e :: es) X.env = (false, eval e X.env) :: starEach es X.env := by rfl)
    (hpl : ((backTo pos (starEach (e :: es) X.env)).any (·.1) || (backToKw pos (keywordEach kws X.env)).any (·.1.isNone)) = false := by rfl) :
    PE X (.Call (.Name x p) (e :: es) kws pos) (tCallK sp gV E t tk) := by
  constructor
  intro pins s σ H Q I h
  refine wpAny_Call_Name_kw (ld_glob I hg hm ?_ hdb)
  refine PySem.W.callWith_KW (h₀ := X.base) I.ok.mod.kin hk hall (thn (ha.run pos pins s σ H _ I h) ?_) hpl he
  rintro us s1 ⟨vs, H1, I1, r, q⟩
  refine thn (hkw.run pos pins s1 σ H1 _ I1 q) ?_
  rintro ws s2 ⟨zs, H2, I2, rz, q2⟩
  refine ⟨I2.kIn, ?_⟩
  rw [hks]
  have r2 := hb.rel r rz
  refine ends (F.after hr hx I2 r2 (hb.to s2 us ws I2.kIn ?_) q2)
  rw [← r2.length]
  exact F.len _ _ _ _ q2
/-- f(k = v, ..) -/
theorem d_callN (F : Dok X.prog X.w X.K X.mg X.base CX k f fd ps sp) (hr : Rm k X.A) (hg : Gl X x) (hm : X.mg x = some (.ref f)) (hk : PySem.W.keepIn X.K (.ref f) = true) (hb : KBinds X.K fd ps ks g gV) (hx : Passes CX X E)
    (hkw : PK X kws tk) (hall : (backToKw pos (keywordEach kws X.env)).all (·.1.isSome) = true := by rfl) (hks : (backToKw pos (keywordEach kws X.env)).filterMap (·.1) = ks := by rfl)
    (hdb : (x == ("__debug__" : Str)) = false := by decide)
    (hpl : ((backTo pos (starEach [] X.env)).any (·.1) || (backToKw pos (keywordEach kws X.env)).any (·.1.isNone)) = false := by rfl) :
    PE X (.Call (.Name x p) [] kws pos) (tCallK sp gV E tNil tk) := by
  constructor
  intro pins s σ H Q I h
  refine wpAny_Call_Name_kw (ld_glob I hg hm ?_ hdb)
  refine PySem.W.callWith_KW0 (h₀ := X.base) I.ok.mod.kin hk hall ?_ hpl
  refine thn (hkw.run pos pins s σ H _ I h) ?_
  rintro ws s2 ⟨zs, H2, I2, rz, q2⟩
  refine ⟨I2.kIn, ?_⟩
  rw [hks]
  have r2 := hb.rel (.nil : Vals [] []) rz
  refine ends (F.after hr hx I2 r2 (hb.to s2 [] ws I2.kIn ?_) q2)
  rw [← r2.length]
  exact F.len _ _ _ _ q2
end
end Xi

namespace Xi
open PySem PySem.Spec PyProof.Rows L2
/-! ## the end: a law's def, called with the script -/
section
variable {P : Program} {w : World} {K : PySem.W.Frag} {mg mb : Str → Option Value} {k : Nat} {fa a : Addr} {fd : FuncData} {x : Str} {sp : Sp} {s : Shared} {us : List Value} {ns : List Int}
theorem at_top (KX : K.In s.heap) (n1 : s.heap.Ns mainGlobals mg) (n2 : s.heap.Ns builtinsNs mb) (n3 : ∀ y : Str, y ≠ "__name__" → mb y = bootBuiltins y) (lim : s.heap.NoLimit) (hg : s.gens = #[]) (hr : Rm k callerA)
    (F : ∀ base : Heap, K.In base → base.Ns mainGlobals mg → Dok P w K mg base CX0 k fa fd [x] sp) (hb : ∀ (s : Shared) (u : Value), BindsTo s fd ⟨[u], []⟩ [(x, u)])
    {H : Hp} (ok : HOk P w H s.heap) (one : ∀ b u, H b = some u → b = a ∧ K.lookup a = none ∧ u = .frz { cls := .type "list", data := .seq us.toArray } (.lst (ns.map V.int)))
    (ha : s.heap.get? a = some { cls := .type "list", data := .seq us.toArray }) (h : sp [.ref a] H (fun v _ => v = .bl true) fun _ _ _ => False) :
    codeAny (model P w) callerA (.call (.ref fa) ⟨[.ref a], []⟩) (fun r s' => r = .ok (.ret (.bool true)) ∧ OldK s.heap s'.heap ∧ s'.os = s.os ∧ AllBare s'.gens) s := by
  have free : ∀ {b : Addr} {o : Obj}, s.heap.get? b = some o → b ≠ a ∨ K.lookup a ≠ none → H b = none := by
    intro b o e d
    cases q : H b with
    | none => rfl
    | some u =>
      obtain ⟨e1, e2, _⟩ := one b u q
      cases d with
      | inl d => exact (d e1).elim
      | inr d => exact (d e2).elim
  have low : ∀ {b : Addr} {o : Obj}, s.heap.get? b = some o → H b = none → (hidT s.heap H).get? b = some o := fun e n => hidT_get e n
  have ns_ : ∀ {b : Addr} {m : Str → Option Value}, s.heap.Ns b m → (hidT s.heap H).Ns b m := by
    rintro b m ⟨o, es, ep, e, d, r⟩
    refine ⟨o, es, ep, low e (free e (.inl ?_)), d, r⟩
    rintro rfl
    rw [ha] at e
    cases e
    cases d
  have kin : K.In (hidT s.heap H) := by
    intro b o e
    refine low (KX b o e) (free (KX b o e) ?_)
    by_cases eb : b = a
    · subst eb
      refine .inr fun z => ?_
      rw [z] at e
      cases e
    · exact .inl eb
  have M : Mod K mg (hidT s.heap H) := by
    obtain ⟨mc, h1, h2⟩ := lim
    exact ⟨kin, ns_ n1, ⟨mb, ns_ n2, n3⟩, ⟨mc, ns_ h1, h2⟩⟩
  have e0 : Env0 P w K mg (hidT s.heap H) callerA [] s H := by
    refine ⟨rfl, M, fun b o e => of_hidT e, Nat.le_of_eq (hidT_size _ _), True.intro, ?_, ok, .of_eq hg⟩
    intro b hb
    cases (show b ∈ ([] : List Addr) from hb)
  refine codeAny_mono ((F _ kin (ns_ n1)).run callerA [] s H ⟨[.ref a], []⟩ [.ref a] [.ref a] _ _ hr e0 (hb s (.ref a)) (.cons rfl .nil) h) ?_
  intro r s' hq
  cases r with
  | error e => exact hq.elim
  | ok fl =>
    cases fl with
    | next => exact hq.elim
    | brk => exact hq.elim
    | cont => exact hq.elim
    | ret u =>
      obtain ⟨v, H', os, bare, un, ok', r', q⟩ := hq
      cases (show v = .bl true from q)
      cases (show u = Value.bool true from r')
      refine ⟨rfl, OldK.of_keep ?_, os, bare⟩
      intro b o e
      cases q2 : H b with
      | none =>
        refine un.keep b o e q2 ?_ ?_ <;> (intro z; cases (show b ∈ ([] : List Addr) from z))
      | some u2 =>
        obtain ⟨rfl, _, rfl⟩ := one b u2 q2
        obtain ⟨e2, _⟩ := ok' b _ (un.frzs b _ _ q2)
        rw [ha] at e
        cases e
        exact e2

/-- the heap in which the script alone is tracked -/
def HScr (a : Addr) (us : List Value) (ns : List Int) : Hp := fun b => if b = a then some (.frz { cls := .type "list", data := .seq us.toArray } (.lst (ns.map V.int))) else none

theorem walkX {l : PySem.W.OpenLaw} {n k : Nat} {q : Program} {loose : List Str} {XP : (Str → Option Value) → Heap → Prop} {YP : World → Heap → Prop} {d : DefRec} {K : Params → PySem.W.Frag} {sp : World → Sp} {x : Str}
    (hn : l.most = some n) (hn2 : n ≤ sizeLine) (hdf : d.params.defaults = []) (hr : Rm k callerA) (hY : ∀ (w : World) (h : Heap), YP w h → (K w.params).In h)
    (F : ∀ (w : World) (mg : Str → Option Value) (fa : Addr) (h : Heap), (K w.params).In h → h.Ns mainGlobals mg → mg d.name = some (.ref fa) →
      ∃ fd : FuncData, (∀ (s : Shared) (u : Value), BindsTo s fd ⟨[u], []⟩ [(x, u)]) ∧ ∀ base : Heap, (K w.params).In base → base.Ns mainGlobals mg → Dok l.prog w (K w.params) mg base CX0 k fa fd [x] (sp w))
    (hsp : ∀ (w : World) (H : Hp) (a : Addr) (ns : List Int), ns.length ≤ n → SqL (K w.params) H a (ns.map V.int) → sp w [.ref a] H (fun v _ => v = .bl true) fun _ _ _ => False) :
    PySem.W.WalkO q loose XP YP l.row.toRowW d [] (fun f vs => PySem.call f vs) := by
  refine Att.attach_call hn hdf ?_
  intro w s₀ s₁ mg mb fa o pm cd doc a vs ns G Y ho hd hcd hmg hobj hints hlen hg
  have KX := hY w _ Y
  obtain ⟨fd, hb, hF⟩ := F w mg fa _ KX G.T.g hmg
  have hl : ns.length ≤ sizeLine := Nat.le_trans hlen hn2
  have rv := vals_ints hints
  have lv := hints.length
  cases hk : (K w.params).lookup a with
  | some ob =>
    have e := KX a ob hk
    rw [hobj] at e
    cases e
    refine at_top (us := vs) (ns := ns) (H := fun _ => none) KX G.T.g G.T.b G.T.builtins G.T.nolimit hg hr hF hb (fun _ _ e => by cases e) (fun _ _ e => by cases e) hobj (hsp w _ a ns hlen ?_)
    exact .inr ⟨_, vs.toArray, _, hk, rfl, rfl, rfl, by rw [List.size_toArray, lv]; exact hl, by simpa using rv⟩
  | none =>
    have at_ : HScr a vs ns a = some (.frz { cls := .type "list", data := .seq vs.toArray } (.lst (ns.map V.int))) := if_pos rfl
    refine at_top (us := vs) (ns := ns) (H := HScr a vs ns) KX G.T.g G.T.b G.T.builtins G.T.nolimit hg hr hF hb ?_ ?_ hobj (hsp w _ a ns hlen (.inl (.inr ⟨_, at_⟩)))
    · intro b u e
      by_cases eb : b = a
      · subst eb
        cases at_.symm.trans e
        exact ⟨hobj, by rw [List.length_map]; exact hl, vs, _, rv, hobj⟩
      · cases (if_neg eb).symm.trans e
    · intro b u e
      by_cases eb : b = a
      · subst eb
        cases at_.symm.trans e
        exact ⟨rfl, hk, rfl⟩
      · cases (if_neg eb).symm.trans e
end
end Xi

namespace Xi
open PySem PySem.Spec PyProof.Rows L2
/-! ## the reel: a list of three ints that is drawn from; n: how many draws it is good for -/
def RB (n : Nat) (x y z : Int) : Prop := 0 ≤ x ∧ 0 ≤ y ∧ y < 2 ^ 200 ∧ 0 ≤ z ∧ z + (n : Int) ≤ 1000000000
theorem RB.less {n m : Nat} {x y z : Int} (h : RB n x y z) (l : m ≤ n) : RB m x y z := by
  obtain ⟨a, b, c, d, e⟩ := h
  exact ⟨a, b, c, d, by omega⟩
def reelL (x y z : Int) : HO := .lst [.int x, .int y, .int z]
def ReelO (n : Nat) (p : Addr) : Heap → Prop := fun h => ∃ (x y z : Int) (t1 t2 t3 : Tok) (k : Nat), h.get? p = some { cls := .type "list", data := .seq #[.int x t1, .int y t2, .int z t3] k } ∧ RB n x y z
def rl (n : Nat) (p : Addr) : HO := .ext (ReelO n p)

theorem three_of {x y z : Int} {its : List Value} (h : Vals [.int x, .int y, .int z] its) : ∃ t1 t2 t3, its = [.int x t1, .int y t2, .int z t3] := by
  cases h with
  | cons a h =>
    cases h with
    | cons b h =>
      cases h with
      | cons c h =>
        cases h
        obtain ⟨t1, rfl⟩ := a
        obtain ⟨t2, rfl⟩ := b
        obtain ⟨t3, rfl⟩ := c
        exact ⟨t1, t2, t3, rfl⟩

section
variable {P : Program} {w : World} {K : PySem.W.Frag} {mg : Str → Option Value} {base : Heap} {k : Nat} {f : Addr} {fd : FuncData} {ps : List Str} {sp spX : Sp} {H H1 : Hp} {h : Heap} {p : Addr} {n : Nat} {x y z : Int}
theorem seen_other {o o' : HO} (ok : HOk P w (upd H p o) h) (n1 : ∀ c, o ≠ .own c) (n2 : ∀ xs, o ≠ .tup xs) (at_ : ObjOk P w (upd H p o') h p o') : HOk P w (upd H p o') h := by
  intro b u e
  by_cases eb : b = p
  · subst eb
    rw [upd_same] at e
    cases e
    exact at_
  · rw [upd_ne eb] at e
    refine (ok b u (by rw [upd_ne eb]; exact e)).stay (fun _ _ _ q => q) ?_ ?_
    · intro c q
      by_cases ec : c = p
      · subst ec
        rw [upd_same] at q
        exact (n1 _ (Option.some.inj q)).elim
      · rw [upd_ne ec] at q ⊢
        exact q
    · intro c xs q
      by_cases ec : c = p
      · subst ec
        rw [upd_same] at q
        exact (n2 _ (Option.some.inj q)).elim
      · rw [upd_ne ec] at q ⊢
        exact q
theorem reel_close (ok : HOk P w (upd H p (reelL x y z)) h) (b : RB n x y z) : HOk P w (upd H p (rl n p)) h := by
  refine seen_other ok (fun _ e => by cases e) (fun _ e => by cases e) ?_
  obtain ⟨_, its, m, r, e⟩ := ok p _ upd_same
  obtain ⟨t1, t2, t3, rfl⟩ := three_of r
  refine ⟨⟨x, y, z, t1, t2, t3, m, e, b⟩, ⟨_, e⟩, ?_⟩
  rintro h1 h2 ⟨x, y, z, t1, t2, t3, m, e, b⟩ st
  exact ⟨x, y, z, t1, t2, t3, m, st _ e, b⟩
theorem reel_open (ok : HOk P w H h) (hp : H p = some (rl n p)) : ∃ x y z, RB n x y z ∧ HOk P w (upd H p (reelL x y z)) h := by
  obtain ⟨⟨x, y, z, t1, t2, t3, m, e, b⟩, _⟩ := ok p _ hp
  have eH : upd H p (rl n p) = H := by
    funext c
    unfold upd
    split
    · rename_i q
      rw [q, hp]
    · rfl
  refine ⟨x, y, z, b, ?_⟩
  rw [← eH] at ok
  refine seen_other ok (fun _ q => by cases q) (fun _ q => by cases q) ?_
  exact ⟨by show 3 ≤ sizeLine; decide, [.int x t1, .int y t2, .int z t3], m, .cons ⟨t1, rfl⟩ (.cons ⟨t2, rfl⟩ (.cons ⟨t3, rfl⟩ .nil)), e⟩
/-- the same objects are tracked, what leans on nothing else as it was -/
structure Vw (H H1 : Hp) : Prop where
  n : ∀ b, H b = none ↔ H1 b = none
  t : ∀ b xs, H b = some (.tup xs) ↔ H1 b = some (.tup xs)
  f : ∀ b o u, H b = some (.frz o u) ↔ H1 b = some (.frz o u)
  c : ∀ b ts, H b = some (.tbl ts) ↔ H1 b = some (.tbl ts)
theorem Vw.of {o o' : HO} (hp : H p = some o) (a : (∀ xs, o ≠ .tup xs) ∧ (∀ q u, o ≠ .frz q u) ∧ ∀ ts, o ≠ .tbl ts) (a' : (∀ xs, o' ≠ .tup xs) ∧ (∀ q u, o' ≠ .frz q u) ∧ ∀ ts, o' ≠ .tbl ts) : Vw H (upd H p o') := by
  have core : ∀ b (u : Option HO), (u ≠ some o) → (u ≠ some o') → (H b = u ↔ upd H p o' b = u) := by
    intro b u h1 h2
    by_cases eb : b = p
    · subst eb
      rw [upd_same, hp]
      exact ⟨fun e => (h1 e.symm).elim, fun e => (h2 e.symm).elim⟩
    · rw [upd_ne eb]
  refine ⟨fun b => core b _ (fun e => by cases e) (fun e => by cases e), fun b xs => core b _ (fun e => a.1 xs ?_) (fun e => a'.1 xs ?_), fun b q u => core b _ (fun e => a.2.1 q u ?_) (fun e => a'.2.1 q u ?_), fun b ts => core b _ (fun e => a.2.2 ts ?_) (fun e => a'.2.2 ts ?_)⟩ <;> exact (Option.some.inj e).symm
theorem Vw.un {fs ex : List Addr} {H2 H3 : Hp} {h' : Heap} (v : Vw H H1) (u : Un fs ex H1 H2 h h') (v' : Vw H2 H3) : Un fs ex H H3 h h' :=
  ⟨fun b o e n => u.keep b o e ((v.n b).mp n), fun b o e n => u.slot b o e ((v.n b).mp n), fun b o e n q => (v'.n b).mp (u.free b o e ((v.n b).mp n) q), u.there,
    fun b xs e => (v'.t b xs).mp (u.tups b xs ((v.t b xs).mp e)), fun b o xs e => (v'.f b o xs).mp (u.frzs b o xs ((v.f b o xs).mp e)), fun b ts e => by
      obtain ⟨more, q⟩ := u.tbls b ts ((v.c b ts).mp e)
      exact ⟨more, (v'.c b _).mp q⟩⟩
theorem vw_refl : Vw H H := ⟨fun _ => Iff.rfl, fun _ _ => Iff.rfl, fun _ _ _ => Iff.rfl, fun _ _ => Iff.rfl⟩
theorem vw_close : Vw (upd H p (reelL x y z)) (upd H p (rl n p)) := by
  have e : upd H p (rl n p) = upd (upd H p (reelL x y z)) p (rl n p) := upd_upd.symm
  rw [e]
  exact Vw.of upd_same ⟨fun _ q => (by cases q), fun _ _ q => (by cases q), fun _ q => (by cases q)⟩ ⟨fun _ q => (by cases q), fun _ _ q => (by cases q), fun _ q => (by cases q)⟩
theorem vw_open (hp : H p = some (rl n p)) : Vw H (upd H p (reelL x y z)) :=
  Vw.of hp ⟨fun _ q => (by cases q), fun _ _ q => (by cases q), fun _ q => (by cases q)⟩ ⟨fun _ q => (by cases q), fun _ _ q => (by cases q), fun _ q => (by cases q)⟩
/-- what a def that hands a reel back, as three ints, is worth to those who see the reel alone -/
def QR (Q : VK) : VK := fun v H' => ∃ (H1 : Hp) (p : Addr) (x y z : Int) (n : Nat), RB n x y z ∧ H' = upd H1 p (reelL x y z) ∧ Q v (upd H1 p (rl n p))
theorem ce_reel {outer : List Env} {H' : Hp} {s s' : Shared} {Q : VK} {u : Value} (v : Vw H H') (c : CE outer P w H' s (QR Q) u s') : CE outer P w H s Q u s' := by
  obtain ⟨x, H2, os, bare, un, ok, r, H3, p, a, b, c, n, bd, rfl, q⟩ := c
  exact ⟨x, _, os, bare, v.un un vw_close, reel_close ok bd, r, q⟩
theorem Dok.made (F : Dok P w K mg base CX0 k f fd ps sp) (hs : ∀ vs H Q E, spX vs H Q E → sp vs H (QR Q) E) : Dok P w K mg base CX0 k f fd ps spX := by
  refine ⟨fun vs H Q E e => F.len _ _ _ _ (hs _ _ _ _ e), ?_⟩
  intro A outer s H args us vs Q E hr e0 hb r e
  refine codeAny_mono (F.run A outer s H args us vs _ E hr e0 hb r (hs _ _ _ _ e)) ?_
  intro r s' hq
  cases r with
  | error e => exact hq
  | ok fl =>
    cases fl with
    | ret u => exact ce_reel vw_refl hq
    | next => exact hq
    | brk => exact hq
    | cont => exact hq
theorem Dok.reel (F : Dok P w K mg base CX0 k f fd ps sp) (len : ∀ vs H Q E, spX vs H Q E → vs.length = ps.length)
    (hs : ∀ vs H Q E, spX vs H Q E → ∃ p n, H p = some (rl n p) ∧ ∀ x y z, RB n x y z → sp vs (upd H p (reelL x y z)) (QR Q) E) : Dok P w K mg base CX0 k f fd ps spX := by
  refine ⟨len, ?_⟩
  intro A outer s H args us vs Q E hr e0 hb r e
  obtain ⟨p, n, hp, hs⟩ := hs _ _ _ _ e
  obtain ⟨x, y, z, bd, ok⟩ := reel_open e0.hok hp
  have v : Vw H (upd H p (reelL x y z)) := vw_open hp
  have e1 : Env0 P w K mg base A outer s (upd H p (reelL x y z)) :=
    ⟨e0.frames, e0.mod, fun b o e => ⟨(e0.bs b o e).1, (v.n b).mp (e0.bs b o e).2⟩, e0.bsz, e0.funs, fun b q => (v.n b).mp (e0.frf b q), ok, e0.bare⟩
  refine codeAny_mono (F.run A outer s _ args us vs _ E hr e1 hb r (hs x y z bd)) ?_
  intro r s' hq
  cases r with
  | error e => exact hq
  | ok fl =>
    cases fl with
    | ret u => exact ce_reel v hq
    | next => exact hq
    | brk => exact hq
    | cont => exact hq
end

/-! ## what stays: all that was tracked; all but the reel at p, which falls from n draws to m -/
theorem same_new {H : Hp} {p : Addr} {o : HO} (h : H p = none) : Same H (upd H p o) := fun b x e => by
  rw [upd_ne (ne_of_none e h)]
  exact e
structure Sr (p : Addr) (n m : Nat) (H H' : Hp) : Prop where
  a : H p = some (rl n p)
  b : H' p = some (rl m p)
  s : ∀ b o, b ≠ p → H b = some o → H' b = some o
theorem rl_ne_lst {n : Nat} {p : Addr} {xs : List V} : rl n p ≠ .lst xs := fun e => by cases e
theorem rl_ne_tup {n : Nat} {p : Addr} {xs : List V} : rl n p ≠ .tup xs := fun e => by cases e
theorem rl_ne_frz {n : Nat} {p : Addr} {o : Obj} {u : HO} : rl n p ≠ .frz o u := fun e => by cases e
section
variable {p q : Addr} {n m k : Nat} {H H' H1 H2 : Hp} {xs : List V} {o : HO}
theorem Sr.of (s : Same H H') (h : H p = some (rl n p)) : Sr p n n H H' := ⟨h, s _ _ h, fun b o _ e => s b o e⟩
theorem Sr.refl (h : H p = some (rl n p)) : Sr p n n H H := .of (Same.refl H) h
theorem Sr.trans (a : Sr p n m H H1) (b : Sr p m k H1 H2) : Sr p n k H H2 := ⟨a.a, b.b, fun c o d e => b.s c o d (a.s c o d e)⟩
theorem Sr.then (a : Sr p n m H H1) (b : Same H1 H2) : Sr p n m H H2 := ⟨a.a, b _ _ a.b, fun c o d e => b c o (a.s c o d e)⟩
theorem Sr.new (a : Sr p n m H H1) (h : H1 q = none) : Sr p n m H (upd H1 q o) := a.then (same_new h)
theorem Sr.free (a : Sr p n m H H1) (h : H1 q = none) : H q = none := by
  cases e : H q with
  | none => rfl
  | some o =>
    have d : q ≠ p := fun d => by
      rw [d, a.b] at h
      cases h
    rw [a.s q o d e] at h
    cases h
/-- an object that was not there is changed -/
theorem Sr.mut (a : Sr p n m H H1) (h : H q = none) : Sr p n m H (upd H1 q o) := by
  have d : p ≠ q := ne_of_none a.a h
  refine ⟨a.a, by rw [upd_ne d]; exact a.b, fun b u e1 e2 => ?_⟩
  rw [upd_ne (ne_of_none e2 h)]
  exact a.s b u e1 e2
theorem Sr.lst (a : Sr p n m H H1) (h : H q = some (.lst xs)) : H1 q = some (.lst xs) := a.s _ _ (ne_of h a.a rl_ne_lst.symm) h
theorem Sr.tup (a : Sr p n m H H1) (h : H q = some (.tup xs)) : H1 q = some (.tup xs) := a.s _ _ (ne_of h a.a rl_ne_tup.symm) h
theorem Sr.seq {K : PySem.W.Frag} (a : Sr p n m H H1) (h : SqL K H q xs) : SqL K H1 q xs := by
  rcases h with (h | ⟨o, h⟩) | h
  · exact .inl (.inl (a.lst h))
  · exact .inl (.inr ⟨o, a.s _ _ (ne_of h a.a rl_ne_frz.symm) h⟩)
  · exact .inr h
theorem same_mut {H0 : Hp} (a : Same H0 H1) (h : H0 q = none) : Same H0 (upd H1 q o) := fun b u e => by
  rw [upd_ne (ne_of_none e h)]
  exact a b u e
end
theorem same_old {H H1 H2 : Hp} {p : Addr} {n m : Nat} (s : Same H H1) (r : Sr p n m H1 H2) (h : H p = none) : Same H H2 := fun b o e =>
  r.s b o (ne_of_none e h) (s b o e)

/-! ## data, all of it tracked -/
mutual
inductive Dt (H : Hp) : V → PyData → Prop
  | non : Dt H .non .none
  | bl (b : Bool) : Dt H (.bl b) (.bool b)
  | int (i : Int) : Dt H (.int i) (.int i)
  | str (x : Str) : Dt H (.str x) (.str x)
  | lst {a : Addr} {xs : List V} {ds : List PyData} : H a = some (.lst xs) → DtAll H xs ds → Dt H (.ref a) (.list ds)
  | tup {a : Addr} {xs : List V} {ds : List PyData} : H a = some (.tup xs) → DtAll H xs ds → Dt H (.ref a) (.tuple ds)
inductive DtAll (H : Hp) : List V → List PyData → Prop
  | nil : DtAll H [] []
  | cons {v : V} {vs : List V} {d : PyData} {ds : List PyData} : Dt H v d → DtAll H vs ds → DtAll H (v :: vs) (d :: ds)
end
section
variable {H H' : Hp}
mutual
theorem Dt.keep (k1 : ∀ b xs, H b = some (.lst xs) → H' b = some (.lst xs)) (k2 : ∀ b xs, H b = some (.tup xs) → H' b = some (.tup xs)) : ∀ {d : PyData} {v : V}, Dt H v d → Dt H' v d
  | .none, _, h => by cases h; exact .non
  | .bool _, _, h => by cases h; exact .bl _
  | .int _, _, h => by cases h; exact .int _
  | .str _, _, h => by cases h; exact .str _
  | .list ds, _, h => by
    cases h with
    | lst e r => exact .lst (k1 _ _ e) (DtAll.keep k1 k2 r)
  | .tuple ds, _, h => by
    cases h with
    | tup e r => exact .tup (k2 _ _ e) (DtAll.keep k1 k2 r)
  | .dict _, _, h => by cases h
theorem DtAll.keep (k1 : ∀ b xs, H b = some (.lst xs) → H' b = some (.lst xs)) (k2 : ∀ b xs, H b = some (.tup xs) → H' b = some (.tup xs)) : ∀ {ds : List PyData} {vs : List V}, DtAll H vs ds → DtAll H' vs ds
  | [], _, h => by cases h; exact .nil
  | d :: ds, _, h => by
    cases h with
    | cons a r => exact .cons (Dt.keep k1 k2 a) (DtAll.keep k1 k2 r)
end
theorem Dt.same {v : V} {d : PyData} (h : Dt H v d) (s : Same H H') : Dt H' v d := h.keep (fun b xs => s b _) fun b xs => s b _
theorem DtAll.same {vs : List V} {ds : List PyData} (h : DtAll H vs ds) (s : Same H H') : DtAll H' vs ds := h.keep (fun b xs => s b _) fun b xs => s b _
theorem Dt.sr {v : V} {d : PyData} {p : Addr} {n m : Nat} (h : Dt H v d) (s : Sr p n m H H') : Dt H' v d := h.keep (fun b xs => s.lst) fun b xs => s.tup
theorem DtAll.sr {vs : List V} {ds : List PyData} {p : Addr} {n m : Nat} (h : DtAll H vs ds) (s : Sr p n m H H') : DtAll H' vs ds := h.keep (fun b xs => s.lst) fun b xs => s.tup
theorem DtAll.len : ∀ {vs : List V} {ds : List PyData}, DtAll H vs ds → vs.length = ds.length
  | _, [], h => by cases h; rfl
  | _, d :: ds, h => by
    cases h with
    | cons a r => simp [DtAll.len r]
theorem DtAll.get : ∀ {vs : List V} {ds : List PyData} {i : Nat} {d : PyData}, DtAll H vs ds → ds[i]? = some d → ∃ v, vs[i]? = some v ∧ Dt H v d
  | _, [], _, _, h, e => by simp at e
  | _, d :: ds, 0, d', h, e => by
    cases h with
    | cons a r =>
      simp at e
      subst e
      exact ⟨_, rfl, a⟩
  | _, d :: ds, i + 1, d', h, e => by
    cases h with
    | cons a r =>
      obtain ⟨v, e1, h1⟩ := DtAll.get (i := i) r (by simpa using e)
      exact ⟨v, by simpa using e1, h1⟩
theorem DtAll.append : ∀ {vs ws : List V} {ds es : List PyData}, DtAll H vs ds → DtAll H ws es → DtAll H (vs ++ ws) (ds ++ es)
  | _, _, [], _, h, g => by cases h; exact g
  | _, _, d :: ds, _, h, g => by
    cases h with
    | cons a r => exact .cons a (DtAll.append r g)
theorem DtAll.take : ∀ {vs : List V} {ds : List PyData} (n : Nat), DtAll H vs ds → DtAll H (vs.take n) (ds.take n)
  | _, _, 0, _ => by simp only [List.take_zero]; exact .nil
  | _, [], _ + 1, h => by cases h; exact .nil
  | _, d :: ds, n + 1, h => by
    cases h with
    | cons a r => exact .cons a (DtAll.take n r)
theorem DtAll.drop : ∀ {vs : List V} {ds : List PyData} (n : Nat), DtAll H vs ds → DtAll H (vs.drop n) (ds.drop n)
  | _, _, 0, h => h
  | _, [], _ + 1, h => by cases h; exact .nil
  | _, d :: ds, n + 1, h => by
    cases h with
    | cons a r => exact DtAll.drop n r
theorem DtAll.one {v : V} {d : PyData} (h : Dt H v d) : DtAll H [v] [d] := .cons h .nil
theorem DtAll.reverse : ∀ {vs : List V} {ds : List PyData}, DtAll H vs ds → DtAll H vs.reverse ds.reverse
  | _, [], h => by cases h; exact .nil
  | _, d :: ds, h => by
    cases h with
    | cons a r =>
      rw [List.reverse_cons, List.reverse_cons]
      exact (DtAll.reverse r).append (.one a)
mutual
theorem Dt.dp {K : PySem.W.Frag} : ∀ {d : PyData} {v : V}, Dt H v d → Dp K H v d
  | .none, _, h => by cases h; exact .non
  | .bool _, _, h => by cases h; exact .bl _
  | .int _, _, h => by cases h; exact .int _
  | .str _, _, h => by cases h; exact .str _
  | .list ds, _, h => by
    cases h with
    | lst e r => exact .lst (SqL.of e) (DtAll.dp r)
  | .tuple ds, _, h => by
    cases h with
    | tup e r => exact .tup (SqT.of e) (DtAll.dp r)
  | .dict _, _, h => by cases h
theorem DtAll.dp {K : PySem.W.Frag} : ∀ {ds : List PyData} {vs : List V}, DtAll H vs ds → DpAll K H vs ds
  | [], _, h => by cases h; exact .nil
  | d :: ds, _, h => by
    cases h with
    | cons a r => exact .cons (Dt.dp a) (DtAll.dp r)
end
end
end Xi

namespace Xi
open PySem PySem.Spec PyProof.Rows L2
/-! ## a def of the text by its name -/
structure Own (K : PySem.W.Frag) (mg : Str → Option Value) (x : Str) (st : Stmt) (ps : List Str) (f : Addr) (fd : FuncData) : Prop where
  F : Fun K x x st f fd
  g : mg x = some (.ref f)
  b : Binds K fd ps []
/-- a def that keeps its promise, by its name -/
def Cal (P : Program) (w : World) (K : PySem.W.Frag) (mg : Str → Option Value) (base : Heap) (CX : CXT) (k : Nat) (x : Str) (st : Stmt) (ps : List Str) (sp : Sp) : Prop :=
  ∃ f fd, Own K mg x st ps f fd ∧ Dok P w K mg base CX k f fd ps sp
section
variable {P : Program} {w : World} {K : PySem.W.Frag} {mg : Str → Option Value} {base : Heap} {CX : CXT} {k j : Nat} {f : Addr} {fd : FuncData} {ps ks N : List Str} {sp sp' : Sp} {x : Str} {st : Stmt}
theorem Cal.mono (c : Cal P w K mg base CX j x st ps sp) (h : j ≤ k) : Cal P w K mg base CX k x st ps sp := by
  obtain ⟨f, fd, o, d⟩ := c
  exact ⟨f, fd, o, d.mono h⟩
theorem Cal.imp (c : Cal P w K mg base CX k x st ps sp) (h : ∀ vs H Q E, sp' vs H Q E → sp vs H Q E) : Cal P w K mg base CX k x st ps sp' := by
  obtain ⟨f, fd, o, d⟩ := c
  exact ⟨f, fd, o, d.imp h⟩
/-- a def from which no exception goes out -/
theorem Dok.calm (F : Fun K x x st f fd) (S : FnScope N ps (defScope st)) (len : ∀ vs H Q E, sp vs H Q E → vs.length = ps.length)
    (hb : ∀ (cdv : Value) (A : Around) (outer : List Env) (s : Shared) (H : Hp) (vs : List V) (Q : VK) (E : XK), Rm k (A.deeper (envOfC x (defScope st) s.heap.objs.size f cdv)) → sp vs H Q E →
      ∃ t, PSs (cxOf CX0 P w K mg base N x (defScope st) f cdv A outer s H E).nox (defBody st) t ∧ t { nx := fun _ H' => Q .non H', rt := Q } (start N vs) H) : Dok P w K mg base CX0 (k + 1) f fd ps sp := by
  refine Dok.body F S len fun cdv A outer s H vs Q E hr h => ?_
  obtain ⟨t, a, b⟩ := hb cdv A outer s H vs Q E hr h
  exact ⟨t, a.nox, b⟩
theorem kbOf {g : List Value → List Value → List Value} {gV : List V → List V → List V} (F : Fun K x x st f fd)
    (h : ∀ (kV doc pm : Value) (an : Option Addr) (cdv ct : Value) (us ws : List Value), (g us ws).length = ps.length →
      bindArgs (PySem.W.fnOf x x (defArgs st) (defBody st) (defScope st) .none kV doc pm an cdv ct) ⟨us, ks.zip ws⟩ = pure (ps.zip (g us ws)))
    (rel : ∀ {vs : List V} {us : List Value} {zs : List V} {ws : List Value}, Vals vs us → Vals zs ws → Vals (gV vs zs) (g us ws)) : KBinds K fd ps ks g gV := by
  obtain ⟨oc, od, kV, doc, pm, an, cdv, ct, osl, rfl, lk, hcd⟩ := F.ex
  exact ⟨fun s us ws _ hl => .of_eq (h kV doc pm an cdv ct us ws hl), rel⟩
end
section
variable {X : Cx} {CX : CXT} {k : Nat} {ps : List Str} {sp : Sp} {E : XK} {x : Str} {st : Stmt} {p pos : Pos} {e : Expr} {es : List Expr} {t tk : TA} {kws : List Keyword} {ks : List Str}
  {g : List Value → List Value → List Value} {gV : List V → List V → List V}
theorem c_call (c : Cal X.prog X.w X.K X.mg X.base CX k x st ps sp) (hr : Rm k X.A) (hx : Passes CX X E) (ha : PA X (e :: es) t) (hg : Gl X x := by rfl)
    (hdb : (x == ("__debug__" : Str)) = false := by decide) (he : starEach (e :: es) X.env = (false, eval e X.env) :: starEach es X.env := by rfl) (hpl : (backTo pos (starEach es X.env)).any (·.1) = false := by rfl) :
    PE X (.Call (.Name x p) (e :: es) [] pos) (tCall sp [] E t) := by
  obtain ⟨f, fd, o, d⟩ := c
  exact d_call d hr hg o.g o.F.kp o.b .nil hx ha hdb he hpl
theorem c_call0 (c : Cal X.prog X.w X.K X.mg X.base CX k x st ps sp) (hr : Rm k X.A) (hx : Passes CX X E) (hg : Gl X x := by rfl) (hdb : (x == ("__debug__" : Str)) = false := by decide) :
    PE X (.Call (.Name x p) [] [] pos) (tCall sp [] E tNil) := by
  obtain ⟨f, fd, o, d⟩ := c
  exact d_call0 d hr hg o.g o.F.kp o.b .nil hx hdb
theorem c_callK (c : Cal X.prog X.w X.K X.mg X.base CX k x st ps sp) (hr : Rm k X.A) (hx : Passes CX X E) (ha : PA X (e :: es) t) (hkw : PK X kws tk)
    (h : ∀ (kV doc pm : Value) (an : Option Addr) (cdv ct : Value) (us ws : List Value), (g us ws).length = ps.length →
      bindArgs (PySem.W.fnOf x x (defArgs st) (defBody st) (defScope st) .none kV doc pm an cdv ct) ⟨us, ks.zip ws⟩ = pure (ps.zip (g us ws)))
    (rel : ∀ {vs : List V} {us : List Value} {zs : List V} {ws : List Value}, Vals vs us → Vals zs ws → Vals (gV vs zs) (g us ws)) (hg : Gl X x := by rfl)
    (hall : (backToKw pos (keywordEach kws X.env)).all (·.1.isSome) = true := by rfl) (hks : (backToKw pos (keywordEach kws X.env)).filterMap (·.1) = ks := by rfl)
    (hdb : (x == ("__debug__" : Str)) = false := by decide) (he : starEach (e :: es) X.env = (false, eval e X.env) :: starEach es X.env := by rfl)
    (hpl : ((backTo pos (starEach (e :: es) X.env)).any (·.1) || (backToKw pos (keywordEach kws X.env)).any (·.1.isNone)) = false := by rfl) :
    PE X (.Call (.Name x p) (e :: es) kws pos) (tCallK sp gV E t tk) := by
  obtain ⟨f, fd, o, d⟩ := c
  exact d_callK d hr hg o.g o.F.kp (kbOf o.F h rel) hx ha hkw hall hks hdb he hpl
theorem c_callN (c : Cal X.prog X.w X.K X.mg X.base CX k x st ps sp) (hr : Rm k X.A) (hx : Passes CX X E) (hkw : PK X kws tk)
    (h : ∀ (kV doc pm : Value) (an : Option Addr) (cdv ct : Value) (us ws : List Value), (g us ws).length = ps.length →
      bindArgs (PySem.W.fnOf x x (defArgs st) (defBody st) (defScope st) .none kV doc pm an cdv ct) ⟨us, ks.zip ws⟩ = pure (ps.zip (g us ws)))
    (rel : ∀ {vs : List V} {us : List Value} {zs : List V} {ws : List Value}, Vals vs us → Vals zs ws → Vals (gV vs zs) (g us ws)) (hg : Gl X x := by rfl)
    (hall : (backToKw pos (keywordEach kws X.env)).all (·.1.isSome) = true := by rfl) (hks : (backToKw pos (keywordEach kws X.env)).filterMap (·.1) = ks := by rfl)
    (hdb : (x == ("__debug__" : Str)) = false := by decide)
    (hpl : ((backTo pos (starEach [] X.env)).any (·.1) || (backToKw pos (keywordEach kws X.env)).any (·.1.isNone)) = false := by rfl) :
    PE X (.Call (.Name x p) [] kws pos) (tCallK sp gV E tNil tk) := by
  obtain ⟨f, fd, o, d⟩ := c
  exact d_callN d hr hg o.g o.F.kp (kbOf o.F h rel) hx hkw hall hks hdb hpl
/-- a whole number of the module's own -/
theorem c_const {i : Int} (h : ∃ t, X.mg x = some (.int i t)) (hg : Gl X x := by rfl) (hd : (x == ("__debug__" : Str)) = false := by decide) : PE X (.Name x p) (tC (.int i)) := by
  obtain ⟨t, h⟩ := h
  exact pe_glob (hd := hd) hg h ⟨_, rfl⟩
/-! ## a power of a great number -/
theorem op_powW : OpR X (binaryOp .Pow) (rI (fun i j => 0 ≤ j ∧ (Builtin.Int.intBits i : Int) * j ≤ 2 ^ 27) fun i j => .int (i ^ j.toNat)) :=
  opI fun _ _ _ _ _ _ _ hc q => pow_int hc.1 hc.2 q
end
theorem tyes {σ : L2.St} {H : Hp} {Q : Bool → Hp → Prop} (h : Q true H) : tYes σ H Q := h
section
variable {K : PySem.W.Frag} {a b : Addr} {xs ys : List V}
open RZ in
theorem walk_zipT {n : Nat} (hn : n = min xs.length ys.length) : Walk (ItzT K a b) n (fun H => SqT K H a xs ∧ SqT K H b ys) (YPair (fun i => xs[i]?) (fun i => ys[i]?)) := by
  subst hn
  constructor
  · intro i H hi q
    have h1 : i < xs.length := by omega
    have h2 : i < ys.length := by omega
    exact ⟨xs, ys, xs[i], ys[i], q.1, q.2, by simp [h1], by simp [h2]⟩
  · intro H q
    exact ⟨xs, ys, q.1, q.2, by omega⟩
  · intro i H v H' hi q y
    obtain ⟨T, x, z, h1, h2, h3, h4, h5⟩ := y
    exact ⟨T, x, z, h1, h2, h3, h4 xs q.1, h5 ys q.2⟩
end
end Xi
namespace Xi
open PySem PySem.Spec PyProof.Rows L2
/-! ## within a comprehension: the written part told outright -/
def rLenX (K : PySem.W.Frag) : List V → Hp → VK → Prop := fun vs H Q => ∃ p ys, vs = [.ref p] ∧ (SqL K H p ys ∨ SqT K H p ys) ∧ Q (.int ys.length) H
section
variable {X : Cx} {K : PySem.W.Frag}
theorem kc_len (e : X.K = K) : CallR X (.builtin "len") (rLenX K) := by
  subst e
  exact call_len_seq
theorem kc_isi (e : X.K = K) : CallR X (.builtin "isinstance") (rIsi K) := by
  subst e
  exact call_isi
theorem kc_isiT (e : X.K = K) : CallR X (.builtin "isinstance") (rIsiT K) := by
  subst e
  exact call_isiT
theorem kc_all (e : X.K = K) (hc : X.calm = true) : CallR X (.builtin "all") (rAll K) := by
  subst e
  exact cr_all hc
theorem k_ixL (e : X.K = K) : IxR X (rIxL K) := by
  subst e
  exact ix_list
theorem k_ixT (e : X.K = K) : IxR X (rIxT K) := by
  subst e
  exact ix_tup
theorem k_eqD (e : X.K = K) (hu : X.A.units + 64 < cLine) : OpR X (compareOp .Eq) (rEqD K) := by
  subst e
  exact op_eqD hu
theorem k_neD (e : X.K = K) (hu : X.A.units + 64 < cLine) : OpR X (compareOp .NotEq) (rNeD K) := by
  subst e
  exact op_neD hu
theorem k_inSeq (e : X.K = K) : OpR X (compareOp .In) (rIn K false) := by
  subst e
  exact op_in_seq
theorem k_niSeq (e : X.K = K) : OpR X (compareOp .NotIn) (rIn K true) := by
  subst e
  exact op_notIn_seq
theorem k_slL (e : X.K = K) : SlR X (rSlL K) := by
  subst e
  exact sl_list
end
end Xi
namespace Xi
open PySem PySem.Spec PyProof.Rows L2
/-! ## parts of a list -/
theorem cut_to {xs : List V} (k : Nat) : cutV xs none (some (k : Int)) = xs.take k := by
  unfold cutV
  rw [HT.sIx_nat, HT.sIx_none, List.drop_zero, Nat.sub_zero]
  rcases Nat.le_total k xs.length with h | h
  · rw [Nat.min_eq_left h]
  · rw [Nat.min_eq_right h, List.take_of_length_le h, List.take_of_length_le (Nat.le_refl _)]
theorem cut_from {xs : List V} (k : Nat) : cutV xs (some (k : Int)) none = xs.drop k := by
  unfold cutV
  rw [HT.sIx_nat, HT.sIx_none]
  rcases Nat.le_total k xs.length with h | h
  · rw [Nat.min_eq_left h]
    exact List.take_of_length_le (by rw [List.length_drop]; exact Nat.le_refl _)
  · rw [Nat.min_eq_right h, List.drop_of_length_le (Nat.le_refl _), List.drop_of_length_le h]
    exact List.take_nil
end Xi
namespace Xi
open PySem PySem.Spec PyProof.Rows L2
/-! ## data that may be compared -/
def shp : Nat → PyData → Prop
  | _, .none => True
  | _, .bool _ => True
  | _, .int _ => True
  | _, .str x => PyData.strOk x = true
  | 0, _ => False
  | n + 1, .list ds => ∀ d ∈ ds, shp n d
  | n + 1, .tuple ds => ∀ d ∈ ds, shp n d
  | _ + 1, .dict _ => False
theorem lay_all : ∀ {ds : List PyData}, (∀ d ∈ ds, d.canLay0 = true) → PyData.canLayAll0 ds = true
  | [], _ => rfl
  | d :: ds, h => by
    show (d.canLay0 && PyData.canLayAll0 ds) = true
    rw [h d List.mem_cons_self, lay_all fun x hx => h x (List.mem_cons_of_mem _ hx)]
    rfl
theorem deep_all {n : Nat} : ∀ {ds : List PyData}, (∀ d ∈ ds, d.depth ≤ n) → PyData.depthAll ds ≤ n
  | [], _ => Nat.zero_le _
  | d :: ds, h => by
    have h1 := h d List.mem_cons_self
    have h2 := deep_all (ds := ds) fun x hx => h x (List.mem_cons_of_mem _ hx)
    show max d.depth (PyData.depthAll ds) ≤ n
    omega
theorem shp_ok : ∀ {n : Nat} {d : PyData}, shp n d → d.canLay0 = true ∧ d.depth ≤ n + 1
  | _, .none, _ => ⟨rfl, by show 0 ≤ _; omega⟩
  | _, .bool _, _ => ⟨rfl, by show 0 ≤ _; omega⟩
  | _, .int _, _ => ⟨rfl, by show 0 ≤ _; omega⟩
  | 0, .str x, h => ⟨h, by show 0 ≤ _; omega⟩
  | _ + 1, .str x, h => ⟨h, by show 0 ≤ _; omega⟩
  | n + 1, .list ds, h => by
    have hh : ∀ d ∈ ds, shp n d := h
    refine ⟨lay_all fun d hd => (shp_ok (hh d hd)).1, ?_⟩
    have := deep_all (n := n + 1) fun d hd => (shp_ok (hh d hd)).2
    show PyData.depthAll ds + 1 ≤ _
    omega
  | n + 1, .tuple ds, h => by
    have hh : ∀ d ∈ ds, shp n d := h
    refine ⟨lay_all fun d hd => (shp_ok (hh d hd)).1, ?_⟩
    have := deep_all (n := n + 1) fun d hd => (shp_ok (hh d hd)).2
    show PyData.depthAll ds + 1 ≤ _
    omega
  | 0, .list _, h => h.elim
  | 0, .tuple _, h => h.elim
  | 0, .dict _, h => h.elim
  | _ + 1, .dict _, h => h.elim
theorem shaped_of {n : Nat} {d : PyData} (h : shp n d) (hn : n ≤ 60 := by decide) : SeqAt.shaped d = true := by
  have a := shp_ok h
  unfold SeqAt.shaped
  rw [a.1, decide_eq_true (show d.depth ≤ 64 by omega)]
  rfl
theorem shp_list {n : Nat} {ds : List PyData} (h : ∀ d ∈ ds, shp n d) : shp (n + 1) (.list ds) := h
theorem shp_tup {n : Nat} {ds : List PyData} (h : ∀ d ∈ ds, shp n d) : shp (n + 1) (.tuple ds) := h
section
variable {K : PySem.W.Frag} {x y : V} {H : Hp} {d : PyData} {n : Nat} {Q : VK}
theorem eqD (h1 : Dt H x d) (h2 : Dt H y d) (s : shp n d) (q : Q (.bl true) H) (hn : n ≤ 60 := by decide) : rEqD K x y H Q := by
  refine ⟨d, d, h1.dp, h2.dp, shaped_of s hn, shaped_of s hn, ?_⟩
  rw [SeqAt.eqv_refl d (shp_ok s).1]
  exact q
theorem neD (h1 : Dt H x d) (h2 : Dt H y d) (s : shp n d) (q : Q (.bl false) H) (hn : n ≤ 60 := by decide) : rNeD K x y H Q := by
  refine ⟨d, d, h1.dp, h2.dp, shaped_of s hn, shaped_of s hn, ?_⟩
  rw [SeqAt.eqv_refl d (shp_ok s).1]
  exact q
theorem dt_strs : ∀ (ws : List Str), DtAll H (ws.map V.str) (ws.map PyData.str)
  | [] => .nil
  | w :: ws => .cons (.str w) (dt_strs ws)
theorem dt_ints : ∀ (ns : List Int), DtAll H (ns.map V.int) (ns.map PyData.int)
  | [] => .nil
  | w :: ws => .cons (.int w) (dt_ints ws)
end
end Xi
namespace Xi
open PySem PySem.Spec PyProof.Rows L2
/-- data of at most n levels, no list too long -/
def dep : Nat → PyData → Prop
  | _, .none => True
  | _, .bool _ => True
  | _, .int _ => True
  | _, .str _ => True
  | 0, _ => False
  | n + 1, .list ds => ds.length ≤ 100000 ∧ ∀ d ∈ ds, dep n d
  | n + 1, .tuple ds => ds.length ≤ 100000 ∧ ∀ d ∈ ds, dep n d
  | _ + 1, .dict _ => False
theorem long_ok {n : Nat} (h : n ≤ 100000) : n < sizeLine := Nat.lt_of_le_of_lt h (by decide)
end Xi
namespace Xi
open PySem PySem.Spec PyProof.Rows L2
/-- what stands behind a statement, proved once -/
theorem with_nx {t : TS} {D : Ends} {σ : L2.St} {H : Hp} (W : L2.St → Hp → Prop) (h1 : ∀ σ H, W σ H → D.nx σ H) (h2 : (∀ σ H, W σ H → D.nx σ H) → t D σ H) : t D σ H := h2 h1
theorem rg_ints (n : Nat) : rgV 0 (n : Int) = ((List.range n).map (fun i : Nat => (i : Int))).map V.int := by
  unfold rgV
  rw [List.map_map, Int.sub_zero, Int.toNat_natCast]
  refine List.map_congr_left fun i _ => ?_
  show V.int (0 + (i : Int)) = V.int (i : Int)
  rw [Int.zero_add]
end Xi
namespace Xi
open PySem PySem.Spec PyProof.Rows L2
theorem ext_tup (l : Addr) (xs : Array Value) (n : Nat) (b : Addr) (ys : Array Value) (m : Nat) (dd : Option Addr) (sl : Array (Option Value)) (h0 : ¬(!xs.isEmpty && Builtin.List.listTooLong (xs.size + ys.size)) = true) (h1 : xs.size ≤ sizeLine) (h2 : xs.size + ys.size ≤ sizeLine + 1) :
    Meets (Builtin.«list.extend» ⟨[.ref l, .ref b], []⟩) (fun _ R s => s.heap.get? l = some { cls := .type "list", data := .seq xs n } ∧ s.heap.get? b = some { cls := .type "tuple", dict := dd, data := .seq ys m, slots := sl } ∧ R (.ok (.ret Value.none)) { s with heap := s.heap.update l (Obj.mapSeq fun x => x ++ ys), toks := s.toks }) :=
  .of_wp fun prog w A R s h => by
    obtain ⟨hp, g, d, tk, os⟩ := s
    obtain ⟨hl, hb, h⟩ := h
    have e1 := AutoSeq1.idx_int
    have e2 := AutoSeq1.sub_tuple_tuple
    have e3 := AutoSeq1.sub_list_list
    have e4 := AutoSeq1.sub_tuple_list
    have e5 := AutoSeq1.sub_list_tuple
    have hz' : (xs ++ ys).size ≤ sizeLine + 1 := by
      rw [Array.size_append]
      exact h2
    wp_walk using (wpAny_updateSeq hl rfl (hz := h1) (_hz' := hz')), AutoSeq1.wpAny_loadPart' hl, AutoSeq1.wpAny_loadPart' hb
    exact ⟨_, rfl, h⟩
section
variable {X : Cx}
def rExtendT (K : PySem.W.Frag) : V → List V → Hp → VK → Prop := fun x vs H Q => ∃ l b xs zs, x = .ref l ∧ vs = [.ref b] ∧ H l = some (.lst xs) ∧ SqT K H b zs ∧ xs.length + zs.length ≤ sizeLine ∧ Q .non (upd H l (.lst (xs ++ zs)))
theorem mt_extendT : MtM X "list.extend" (rExtendT X.K) := by
  intro pins s σ H x vs v us Q I rx rv h
  obtain ⟨l, b, xs, zs, rfl, rfl, hH, hB, hz, q⟩ := h
  cases rx
  obtain ⟨u, rfl, ru⟩ := rv.one
  cases ru
  obtain ⟨z, its, n, r, hl, e⟩ := I.lstM hH
  obtain ⟨ws, r2, ⟨o, h1, h2, m, h3⟩, hz2⟩ := I.tuple hB
  obtain ⟨oc, od, dt, sl⟩ := o
  simp only at h2 h3
  subst h2 h3
  have hl2 := r2.length
  have hsz : its.toArray.size + ws.toArray.size ≤ sizeLine := by
    rw [List.size_toArray, List.size_toArray]
    omega
  have short : ¬ (!its.toArray.isEmpty && Builtin.List.listTooLong (its.toArray.size + ws.toArray.size)) = true := by
    rw [notLongL hsz, Bool.and_false]
    exact Bool.false_ne_true
  refine call_meets F.slot_list_extend ⟨_, e, rfl⟩ F.entry_list_extend (F.args_list_extend_2 _ _) (ext_tup l its.toArray n b ws.toArray m od sl short (by rw [List.size_toArray]; omega) (by omega)) ⟨e, h1, ?_⟩
  refine ⟨.non, _, I.lset (its' := its ++ ws) hH e (by simp) (r.append r2) ?_, rfl, q⟩
  rw [List.length_append]
  omega
end
end Xi

namespace Xi
open PySem PySem.Spec PyProof.Rows L2
/-! ## a datum written out -/
def rRepr (K : PySem.W.Frag) : List V → Hp → VK → Prop := fun xs H Q => ∃ (a : Addr) (d : PyData), xs = [.ref a] ∧ Dp K H (.ref a) d ∧ d.showable = true ∧ SeqAt.shaped d = true ∧ d.shown.length ≤ sizeLine ∧ Q (.str d.shown) H
section
variable {X : Cx} {K : PySem.W.Frag} {k : Nat}
theorem kc_repr (e : X.K = K) (hr : Rm k X.A) : CallR X (.builtin "repr") (rRepr K) := by
  subst e
  intro pins s σ H xs us Q I r h
  obtain ⟨a, d, rfl, hd, h1, h2, h3, q⟩ := h
  obtain ⟨u, rfl, ru⟩ : ∃ u, us = [u] ∧ RelV (.ref a) u := by
    cases r with
    | cons x y =>
      cases y
      exact ⟨_, rfl, x⟩
  cases (show u = Value.ref a from ru)
  obtain ⟨as, rd⟩ := Dp.reads I d _ _ hd rfl
  have nd := PyData.hasDict_of_canLay d (SeqAt.canLay_of_shaped h2)
  have dp := SeqAt.depth_of_shaped h2
  have un := hr.r.un
  refine repr_of_reads' rd h1 (fun z => by rw [nd] at z; cases z) hr.g (by omega) (fun b o e => e) (fun h' u tk keep => ?_) h3
  exact ⟨.str d.shown, H, I.kept (t' := tk) keep, ⟨u, rfl⟩, q⟩
/-! ## a set of whole numbers -/
def rSetI (K : PySem.W.Frag) : List V → Hp → VK → Prop := fun xs H Q => ∃ (l : Addr) (ns : List Int), xs = [.ref l] ∧ SqL K H l (ns.map V.int) ∧ ns.length ≤ 4000 ∧ ∀ p S n, H p = none → (∀ z, S z = decide (z ∈ ns)) → Q (.ref p) (upd H p (.set S n))
theorem kc_setI (e : X.K = K) (hc : X.calm = true) : CallR X (.type "set") (rSetI K) := by
  subst e
  intro pins s σ H xs us Q I r h
  obtain ⟨l, ns, rfl, hl, hz, q⟩ := h
  obtain ⟨u, rfl, ru⟩ : ∃ u, us = [u] ∧ RelV (.ref l) u := by
    cases r with
    | cons x y =>
      cases y
      exact ⟨_, rfl, x⟩
  cases (show u = Value.ref l from ru)
  obtain ⟨its, r, pl, _⟩ := I.list hl
  have hlen : its.toArray.size = ns.length := by rw [List.size_toArray, ← r.length, List.length_map]
  refine call_set_list (I.ok.hd hc) pl.isList (by simpa using RZ.intsAre_vals r) (by rw [hlen]; unfold scanBound; omega) fun h' tk hS hk => ?_
  have hf : H s.heap.objs.size = none := I.hok.fresh (Nat.le_refl _)
  refine ⟨.ref s.heap.objs.size, _, I.laid (t' := tk) (fun b o e => hk b o (Heap.lt_size e) e) (Nat.le_refl _) (show ObjOk X.prog X.w (upd H s.heap.objs.size (.set _ _)) h' s.heap.objs.size (.set _ _) from hS), rfl, q _ _ _ hf fun z => ?_⟩
  rw [firstMet_any, hlen]
  have e1 : (List.range ns.length).map (fun i => ns.getD i 0) = ns := by
    refine List.ext_getElem (by simp) fun i h1 h2 => ?_
    simp [List.getD_eq_getElem?_getD, List.getElem?_eq_getElem h2]
  rw [e1]
  by_cases hm : z ∈ ns
  · rw [decide_eq_true hm]
    exact List.any_eq_true.mpr ⟨z, hm, by simp⟩
  · rw [decide_eq_false hm]
    exact List.any_eq_false.mpr fun y hy => by
      intro e
      have : y = z := by simpa using e
      exact hm (this ▸ hy)
theorem kc_min (e : X.K = K) (hc : X.calm = true) : CallR X (.builtin "min") (rMin K) := by
  subst e
  exact cr_min hc
theorem kc_max (e : X.K = K) (hc : X.calm = true) : CallR X (.builtin "max") (rMax K) := by
  subst e
  exact cr_max hc
def rInI : R2 := fun x y H Q => ∃ (z : Int) (a : Addr) (S : Int → Bool) (n : Nat), x = .int z ∧ y = .ref a ∧ H a = some (.set S n) ∧ Q (.bl (S z)) H
theorem op_inI : OpR X (compareOp .In) rInI := by
  intro pins s σ H x y v u Q I rx ry h
  obtain ⟨z, a, S, n, rfl, rfl, ha, q⟩ := h
  obtain ⟨t, rfl⟩ := rx
  cases (show u = Value.ref a from ry)
  have hS : s.heap.SetOf (intKind X.prog X.w) a S n := I.hok a _ ha
  exact wpAny_inSet_of (knd := intKind X.prog X.w) (k := z) (by simp [intKind, Value.isInt]) rfl hS ⟨.bl (S z), H, I.tok _, rfl, q⟩
end
end Xi
namespace Xi
open PySem PySem.Spec PyProof.Rows L2
/-! ## how long a written datum is at most -/
mutual
def wt : PyData → Nat
  | .none => 4
  | .bool _ => 5
  | .int _ => 40
  | .str _ => 0
  | .list ds => wtAll ds + 2
  | .tuple ds => wtAll ds + 4
  | .dict _ => 0
def wtAll : List PyData → Nat
  | [] => 0
  | d :: ds => wt d + 2 + wtAll ds
end
/-- data of truths and whole numbers of at most 31 figures -/
def prt : Nat → PyData → Prop
  | _, .none => True
  | _, .bool _ => True
  | _, .int i => i.natAbs < 10 ^ 31
  | _, .str _ => False
  | 0, _ => False
  | n + 1, .list ds => ∀ d ∈ ds, prt n d
  | n + 1, .tuple ds => ∀ d ∈ ds, prt n d
  | _ + 1, .dict _ => False
theorem prt_shp : ∀ {n : Nat} {d : PyData}, prt n d → shp n d
  | _, .none, _ => (by unfold shp; trivial)
  | _, .bool _, _ => (by unfold shp; trivial)
  | _, .int _, _ => (by unfold shp; trivial)
  | 0, .str _, h => h.elim
  | _ + 1, .str _, h => h.elim
  | n + 1, .list ds, h => fun d hd => prt_shp ((show ∀ d ∈ ds, prt n d from h) d hd)
  | n + 1, .tuple ds, h => fun d hd => prt_shp ((show ∀ d ∈ ds, prt n d from h) d hd)
  | 0, .list _, h => h.elim
  | 0, .tuple _, h => h.elim
  | 0, .dict _, h => h.elim
  | _ + 1, .dict _, h => h.elim
theorem strLen (x y : Str) : (x ++ y).length = x.length + y.length := Array.size_append ..
theorem textFrom_le : ∀ (ts : List Str) (k : Nat) (acc : Str), (textFrom k acc ts).length ≤ acc.length + (ts.map fun t => t.length + 2).sum
  | [], _, acc => by
    show acc.length ≤ acc.length + 0
    omega
  | t :: r, k, acc => by
    have ih := textFrom_le r (k + 1) (acc ++ ((if k > 0 then ", " else "" : String) : Str) ++ t)
    have e : ((if k > 0 then ", " else "" : String) : Str).length ≤ 2 := by
      split
      · exact Nat.le_of_eq (by decide +kernel)
      · exact Nat.le_trans (Nat.le_of_eq (by decide +kernel : (("" : String) : Str).length = 0)) (by decide)
    rw [strLen, strLen] at ih
    show (textFrom (k + 1) (acc ++ ((if k > 0 then ", " else "" : String) : Str) ++ t) r).length ≤ acc.length + ((t.length + 2) + (r.map fun t => t.length + 2).sum)
    omega
theorem join_le : ∀ ts : List Str, (Str.join ", " ts).length ≤ (ts.map fun t => t.length + 2).sum
  | [] => Nat.le_of_eq (by decide +kernel)
  | [x] => by
    show x.length ≤ (x.length + 2) + 0
    omega
  | x :: y :: r => by
    have ih := join_le (y :: r)
    have e2 : ((", " : String) : Str).length = 2 := by decide +kernel
    show (x ++ ((", " : String) : Str) ++ Str.join ", " (y :: r)).length ≤ (x.length + 2) + ((y :: r).map fun t => t.length + 2).sum
    rw [strLen, strLen]
    omega
mutual
theorem shown_le : ∀ {n : Nat} {d : PyData}, prt n d → d.showable = true ∧ d.shown.length ≤ wt d
  | _, .none, _ => ⟨rfl, Nat.le_of_eq (by decide +kernel)⟩
  | _, .bool b, _ => ⟨rfl, by cases b <;> decide +kernel⟩
  | n, .int i, h => by
    have hi : i.natAbs < 10 ^ 31 := by cases n <;> exact h
    have h2 : (10 : Nat) ^ 31 < 2 ^ 110 := by decide
    have l := int_text_length_le10 (a := i) (k := 31) (by decide) hi
    refine ⟨?_, ?_⟩
    · show decide (i.natAbs.log2 < 1920) = true
      exact decide_eq_true (Nat.lt_trans (PySem.Flt.log2_lt_of (k := 110) (by decide) (Nat.lt_trans hi h2)) (by decide))
    · have e : ((toString i : String) : Str).length ≤ 32 := by
        show (Str.ofString (toString i)).length ≤ 32
        rw [PySem.ofString_length]
        exact l
      show ((toString i : String) : Str).length ≤ 40
      omega
  | 0, .str _, h => h.elim
  | _ + 1, .str _, h => h.elim
  | n + 1, .list ds, h => by
    obtain ⟨a, b⟩ := shownAll_le (n := n) (ds := ds) h
    refine ⟨a, ?_⟩
    have t := textFrom_le (PyData.shownAll ds) 0 ("[" : Str)
    have e1 : ("[" : Str).length = 1 := by decide +kernel
    have e2 : ("]" : Str).length = 1 := by decide +kernel
    show (textFrom 0 ("[" : Str) (PyData.shownAll ds) ++ ("]" : Str)).length ≤ wtAll ds + 2
    rw [strLen]
    omega
  | n + 1, .tuple ds, h => by
    obtain ⟨a, b⟩ := shownAll_le (n := n) (ds := ds) h
    refine ⟨a, ?_⟩
    have t := join_le (PyData.shownAll ds)
    have e1 : ("(" : Str).length = 1 := by decide +kernel
    have e2 : ((if (PyData.shownAll ds).length == 1 then ",)" else ")" : String) : Str).length ≤ 2 := by
      split
      · exact Nat.le_of_eq (by decide +kernel)
      · exact Nat.le_trans (Nat.le_of_eq (by decide +kernel : ((")" : String) : Str).length = 1)) (by decide)
    show (("(" : Str) ++ Str.join ", " (PyData.shownAll ds) ++ ((if (PyData.shownAll ds).length == 1 then ",)" else ")" : String) : Str)).length ≤ wtAll ds + 4
    rw [strLen, strLen]
    omega
  | 0, .list _, h => h.elim
  | 0, .tuple _, h => h.elim
  | 0, .dict _, h => h.elim
  | _ + 1, .dict _, h => h.elim
theorem shownAll_le : ∀ {n : Nat} {ds : List PyData}, (∀ d ∈ ds, prt n d) → PyData.showableAll ds = true ∧ ((PyData.shownAll ds).map fun t => t.length + 2).sum ≤ wtAll ds
  | _, [], _ => ⟨rfl, Nat.le_refl _⟩
  | n, d :: ds, h => by
    obtain ⟨a, b⟩ := shown_le (h d List.mem_cons_self)
    obtain ⟨a2, b2⟩ := shownAll_le (ds := ds) fun x hx => h x (List.mem_cons_of_mem _ hx)
    refine ⟨?_, ?_⟩
    · show (d.showable && PyData.showableAll ds) = true
      rw [a, a2]
      rfl
    · show (d.shown.length + 2) + ((PyData.shownAll ds).map fun t => t.length + 2).sum ≤ wt d + 2 + wtAll ds
      omega
end
theorem wtAll_le {m : Nat} : ∀ {ds : List PyData}, (∀ d ∈ ds, wt d ≤ m) → wtAll ds ≤ ds.length * (m + 2)
  | [], _ => Nat.zero_le _
  | d :: ds, h => by
    have a := h d List.mem_cons_self
    have b := wtAll_le (ds := ds) fun x hx => h x (List.mem_cons_of_mem _ hx)
    show wt d + 2 + wtAll ds ≤ (ds.length + 1) * (m + 2)
    rw [Nat.add_mul, Nat.one_mul]
    omega
section
variable {K : PySem.W.Frag} {a : Addr} {H : Hp} {d : PyData} {n : Nat} {Q : VK}
theorem reprD (h : Dt H (.ref a) d) (s : prt n d) (l : wt d ≤ 10000000) (q : Q (.str d.shown) H) (hn : n ≤ 60 := by decide) : rRepr K [.ref a] H Q := by
  obtain ⟨x, y⟩ := shown_le s
  refine ⟨a, d, rfl, h.dp, x, shaped_of (prt_shp s) hn, ?_, q⟩
  have e : sizeLine = 16777216 := by rw [sizeLine_eq]
  rw [e]
  omega
theorem prt_list {ds : List PyData} (h : ∀ d ∈ ds, prt n d) : prt (n + 1) (.list ds) := h
theorem prt_tup {ds : List PyData} (h : ∀ d ∈ ds, prt n d) : prt (n + 1) (.tuple ds) := h
end
end Xi

namespace Xi
open PySem PySem.Spec PySem.Calls PyProof.Rows L2
/-! ## except (A, B, ..) as e -/
section
variable {M : Model} {A : Around} {E : Value → Shared → Prop} {s : Shared}
theorem forIn_skip {body : Value → PUnit → Sem (ForInStep PUnit)} : ∀ {l : List Value} {Q : PUnit → Shared → Prop}, (∀ c ∈ l, ∀ {Q : ForInStep PUnit → Shared → Prop}, Q (.yield ⟨⟩) s → wpAny M A (body c ⟨⟩) Q E s) → Q ⟨⟩ s → wpAny M A (forIn l ⟨⟩ body) Q E s
  | [], Q, _, q => by
    rw [List.forIn_nil]
    exact wpAny_pure q
  | c :: l, Q, h, q => by
    rw [List.forIn_cons]
    exact wpAny_bind (h c List.mem_cons_self (forIn_skip (fun d hd => h d (List.mem_cons_of_mem _ hd)) q))
theorem forIn_any {β : Type} {b0 b1 : β} {f : Value → Bool} {body : Value → β → Sem (ForInStep β)} : ∀ {l : List Value} {Q : β → Shared → Prop},
    (∀ c ∈ l, ∀ {Q : ForInStep β → Shared → Prop}, Q (if f c then .done b1 else .yield b0) s → wpAny M A (body c b0) Q E s) → Q (if l.any f then b1 else b0) s → wpAny M A (forIn l b0 body) Q E s
  | [], Q, _, q => by
    rw [List.forIn_nil]
    exact wpAny_pure q
  | c :: l, Q, h, q => by
    rw [List.forIn_cons]
    refine wpAny_bind (h c List.mem_cons_self ?_)
    rw [List.any_cons] at q
    cases e : f c with
    | true =>
      rw [e] at q
      exact wpAny_pure q
    | false =>
      rw [e] at q
      exact forIn_any (fun d hd => h d (List.mem_cons_of_mem _ hd)) q
end
theorem exmAny_each {K : PySem.W.Frag} {cls : Value} : ∀ {cs : List Value} {b : Bool}, PySem.W.exmAny K cls cs = some b → (∀ c ∈ cs, PySem.W.exmOne K cls c = some ((PySem.W.exmOne K cls c).getD false)) ∧ b = cs.any fun c => (PySem.W.exmOne K cls c).getD false
  | [], b, h => ⟨fun c hc => (by cases hc), (Option.some.inj h).symm⟩
  | c :: r, b, h => by
    obtain ⟨b1, d1, h1, h2, rfl⟩ := PySem.W.exmAny_cons h
    obtain ⟨i1, i2⟩ := exmAny_each h2
    refine ⟨fun d hd => ?_, ?_⟩
    · rcases List.mem_cons.mp hd with rfl | hd
      · rw [h1]
        rfl
      · exact i1 d hd
    · rw [List.any_cons, h1, ← i2]
      rfl
open PySem.W in
theorem exm_all {M : Model} {K : PySem.W.Frag} {cs : List Value} {cls : Value} {tp e : Addr} {b : Bool} {h : Heap} (X : K.In h) (LT : Looks M h (typeOf (.ref e)) cls) (hp : h.get? tp = some { cls := .type "tuple", data := .seq cs.toArray }) (hx : exmAny K cls cs = some b) :
    Looks M h (excMatches (.ref e) (.ref tp)) b := by
  intro A Q E s k₀ q
  obtain ⟨hh, g, d, tk, os⟩ := s
  have k : ∀ b o, h.get? b = some o → hh.get? b = some o := k₀
  have LT0 : Looks M h (isInstance (.ref tp) (.type "tuple")) true := ((Looks.ld hp).andThen .now).andThen (Looks.of_pure isSubtype_tuple_tuple)
  obtain ⟨each, eb⟩ := exmAny_each hx
  have LT := LT.keeps k
  have LT0 := LT0.keeps k
  have hp' := k _ _ hp
  unfold excMatches
  refine wpAny_bind (LT0.at ?_)
  dsimp only
  rw [if_pos rfl]
  first
    | refine wpAny_bind (wpAny_seqItems hp' rfl ?_)
    | refine wpAny_bind (wpAny_bind (wpAny_seqItems hp' rfl (wpAny_pure ?_)))
  dsimp only [Option.getD_some, Option.getD]
  refine wpAny_bind (wpAny_pure ?_)
  refine wpAny_bind (forIn_skip (fun c hc Q q => ?_) ?_)
  · obtain ⟨e1, S1⟩ := exm_cls (M := M) X (each c hc)
    have e1 := e1.keeps k
    refine wpAny_bind (e1.at ?_)
    simp only [Bool.not_true, Bool.false_eq_true, if_false]
    exact wpAny_pure q
  refine wpAny_bind (LT.at ?_)
  refine wpAny_bind (forIn_any (b1 := (some true, ())) (f := fun c => (exmOne K cls c).getD false) (fun c hc Q q => ?_) ?_)
  · obtain ⟨e1, S1⟩ := exm_cls (M := M) X (each c hc)
    have S1 := S1.keeps k
    refine wpAny_bind (S1.at ?_)
    cases e : (exmOne K cls c).getD false with
    | true =>
      rw [if_pos rfl]
      rw [e, if_pos rfl] at q
      exact wpAny_pure q
    | false =>
      rw [if_neg Bool.false_ne_true]
      rw [e, if_neg Bool.false_ne_true] at q
      exact wpAny_pure q
  rw [← eb]
  cases b with
  | true =>
    rw [if_pos rfl]
    exact wpAny_pure q
  | false =>
    rw [if_neg Bool.false_ne_true]
    exact wpAny_pure q
/-- the names in the brackets of an except clause -/
inductive NamesL (X : Cx) : List Expr → List Value → Prop
  | nil : NamesL X [] []
  | cons {x : Str} {c : Value} {p : Pos} {es : List Expr} {cs : List Value} (hc : Names X x c) (r : NamesL X es cs) : NamesL X (.Name x p :: es) (c :: cs)
theorem NamesL.mark {X : Cx} {a : Addr} {pn : List (Addr × Obj)} {es : List Expr} {cs : List Value} (h : NamesL X es cs) : NamesL (X.suite a pn) es cs := by
  induction h with
  | nil => exact .nil
  | cons y r ih => exact .cons y ih
/-- an exception of the class cls that was caught, at a -/
def CaO (cls : Value) (a : Addr) : HO := .ext fun h => ∃ (oe : Obj) (vs : Array Value), h.get? a = some oe ∧ oe.cls = cls ∧ oe.dict = none ∧ oe.data = .fields vs
theorem caO_ok {P : Program} {w : World} {H : Hp} {h : Heap} {a : Addr} {cls : Value} {oe : Obj} {vs : Array Value} (e : h.get? a = some oe) (z : Zc cls none oe) (d : oe.data = .fields vs) : ObjOk P w H h a (CaO cls a) :=
  ⟨⟨oe, vs, e, z.1, z.2, d⟩, ⟨oe, e⟩, fun _ _ ⟨u, v, q, r⟩ k => ⟨u, v, k u q, r⟩⟩
section
variable {X : Cx} {pins : List (Addr × Obj)} {σ : L2.St} {H : Hp} {s : Shared} {a : Addr} {o : HO}
theorem names_run {pos : Pos} {E : Value → Shared → Prop} (I : Inv X pins σ H s) : ∀ {es : List Expr} {cs : List Value} {Q : List Value → Shared → Prop}, NamesL X es cs → Q cs s → wpAny (model X.prog X.w) X.A (spliced (backTo pos (starEach es X.env))) Q E s
  | _, _, _, .nil, q => wpAny_items_nil q
  | _, _, _, .cons (c := c) ⟨g, d, y⟩ r, q => by
    refine wpAny_items_cons ?_
    rcases y with y | ⟨y, v, nn⟩
    · exact ld_glob I g y (names_run I r q) d
    · exact ld_blt I g y v (names_run I r q) nn d
/-- an object that was made since the entry may be looked after -/
theorem track (I : Inv X pins σ H s) (n : H a = none) (old : X.s_0.heap.get? a = none) (nl : a ≠ X.env.locals) (nc : ∀ x c, X.env.cells.lookup x = some c → c ≠ a) (np : ∀ p ∈ X.pn ++ pins, p.1 ≠ a)
    (new : ObjOk X.prog X.w (upd H a o) s.heap a o) : Inv X pins σ (upd H a o) s where
  ok := I.ok
  os := I.os
  bare := I.bare
  base := by
    refine ⟨I.base.keep, I.base.slot, fun b u e z w => ?_, I.base.there, fun b xs e => ?_, fun b u xs e => ?_, fun b ps e => ?_⟩
    · rw [upd_ne (fun q => by rw [q, old] at e; cases e)]
      exact I.base.free b u e z w
    · rw [upd_ne (ne_of_none (I.base.tups b xs e) n)]
      exact I.base.tups b xs e
    · rw [upd_ne (ne_of_none (I.base.frzs b u xs e) n)]
      exact I.base.frzs b u xs e
    · obtain ⟨m, z⟩ := I.base.tbls b ps e
      exact ⟨m, by rw [upd_ne (ne_of_none z n)]; exact z⟩
  loc := I.loc
  cell := I.cell
  free := by
    rw [upd_ne nl.symm]
    exact I.free
  freeC := fun x c e => by
    rw [upd_ne (nc x c e)]
    exact I.freeC x c e
  pin := fun p hp => by
    obtain ⟨x1, x2, x3⟩ := I.pin p hp
    exact ⟨x1, by rw [upd_ne (np p hp)]; exact x2, x3⟩
  hok := HOk.laidN I.hok (fun _ _ z => z) n new
  len := I.len
end
theorem flies {B : Heap} {l : List Env} {e : Addr} {Z : Obj → Prop} {h h' : Heap} (f : HandSPX.FlyingZ B l e Z h) (k : ∀ b o, h.get? b = some o → h'.get? b = some o) : HandSPX.FlyingZ B l e Z h' := by
  obtain ⟨f1, f2, f3, oe, ws, T, oT, ts, x1, x2, x3, x4, x5, x6, x7, x8⟩ := f
  exact ⟨fun b o q => k b o (f1 b o q), f2, f3.of_keeps fun b o q _ => ⟨o, k b o q, rfl⟩, oe, ws, T, oT, ts, k _ _ x1, x2, x3, x4, x5, x6, k _ _ x7, x8⟩
/-- what 'except (A, B, ..) as n' wishes of an exception; behind its suite the exception is looked after -/
def wIn (K : PySem.W.Frag) (cs : List Value) (i : Nat) (ts : Addr → Value → Option Addr → TS) (Wout : WX) (D : Ends) : WX := fun cls d σ H =>
  ∃ b, PySem.W.exmAny K cls cs = some b ∧
    (b = true → d = none ∧ ∀ a, H a = none → ts a cls d { nx := fun σ' H' => D.nx (σ'.set i none) (upd H' a (CaO cls a)), rt := fun _ _ => False, bk := fun _ _ => False, ct := fun _ _ => False } (σ.set i (some (.ref a))) H) ∧
    (b = false → Wout cls d σ H)
section
variable {X : Cx} {n : Str} {i kk : Nat} {es : List Expr} {cs : List Value} {body suite : List Stmt} {b₀ : Stmt} {tpos pos pos' : Pos} {tb : WX → TS} {ts : Addr → Value → Option Addr → TS} {Wout : WX}
theorem ps_try_in (e1 : X.stack = X.env :: X.outer) (e2 : X.env.frame = some X.env.locals) (e3 : X.ex = []) (nd : X.N.Nodup) (ni : X.N[i]? = some n) (nk : X.env.kindOf n = some .local) (hc : NamesL X es cs) (lc : cs.length ≤ sizeLine) (tk : Takes X Wout)
    (B1 : ∀ (W : WX) (pn : List (Addr × Obj)) (xe : Value → Shared → Prop), Takes (X.tr pn xe) W → PSs (X.tr pn xe) body (tb W))
    (B2 : ∀ (a : Addr) (oe : Obj) (cls : Value) (d : Option Addr) (pn : List (Addr × Obj)), Zc cls d oe → (∃ vs, oe.data = .fields vs) → PSs (X.suite a ((a, oe) :: pn)) (b₀ :: suite) (ts a cls d)) :
    PS X (.Try body [.ExceptHandler (some (.Tuple es kk tpos)) (some n) (b₀ :: suite) pos'] [] [] pos) (fun D σ H => tb (wIn X.K cs i ts Wout D) D σ H) := by
  constructor
  intro pins s σ H D I0 want
  have ok := I0.ok
  have fr : X.A.frames = some (X.env :: X.outer) := by
    rw [ok.frames, e1]
  refine wpAny_Try_except (wpAny_mono ((B1 (wIn X.K cs i ts Wout D) (X.pn ++ pins) _ (fun u s' air => ?_)).run [] s σ H D (I0.toTry _) want) (fun f s1 done => ?_) (fun _ _ z => z))
  · obtain ⟨a, B, sI, pins', σ', H', cls, d, rfl, J', nb, up, sky, na, os, ag, b, x1, yes, no⟩ := air
    have J : Inv X pins σ' H' sI := J'.ofTry ok
    rw [show (X.tr (X.pn ++ pins) _).stack = X.env :: X.outer from e1] at sky
    refine Sky.land Zc.steady fr e2 sky fun h3 g3 u3 => ?_
    have J3 : Inv X pins σ' H' { s' with heap := h3 } := J.landed nb g3.1 (up.trans u3) os ag
    obtain ⟨oe, vs, T, oT, us, q1, q2, q3, q4, q5, q6, q7, q8, q9⟩ := id g3.2.2.2
    have apart : a ∉ frs (X.env :: X.outer) := fun hm => by
      obtain ⟨_, u, eu, hu⟩ := g3.2.2.1.mem hm
      rw [q1] at eu
      cases eu
      exact hu _ q3
    have aL : a ≠ X.env.locals := fun z => apart (List.mem_filterMap.mpr ⟨X.env, List.mem_cons_self, by rw [e2, z]⟩)
    have aF : a ∉ X.fs := fun hm => by
      obtain ⟨v, hv, q⟩ := List.mem_filterMap.mp hm
      exact apart (List.mem_filterMap.mpr ⟨v, List.mem_cons_of_mem _ hv, q⟩)
    -- what is in the brackets
    refine wpAny_handleBy_cons (codeAny_handlers_test ?_) (fun q => by cases q)
    refine wpAny_Tuple (names_run (X := X.suite a ((a, oe) :: (X.pn ++ pins))) (J3.suite q1 q3 na aL aF) (es := es) (cs := cs) ?_ ⟨lc, ?_⟩)
    · exact hc.mark
    have grow : ∀ b o, h3.get? b = some o → (h3.push { cls := .type "tuple", data := .seq cs.toArray }).get? b = some o := fun _ _ z => Heap.get?_push_of_some _ z
    have tup : (h3.push { cls := .type "tuple", data := .seq cs.toArray }).get? h3.objs.size = some { cls := .type "tuple", data := .seq cs.toArray } := Heap.get?_push_size h3 rfl
    have LT : PySem.W.Looks (model X.prog X.w) (h3.push { cls := .type "tuple", data := .seq cs.toArray }) (typeOf (.ref a)) cls := fun A Q E s k q => wpAny_typeOf_ref (k _ _ (grow _ _ q1)) (by rw [q2.1]; exact q)
    refine (exm_all (M := model X.prog X.w) (J3.kIn.keeps grow) LT tup x1).here ?_
    have f4 := flies g3 grow
    have u4 : sI.heap.UpToSlots (h3.push { cls := .type "tuple", data := .seq cs.toArray }) := (up.trans u3).trans (Heap.UpToSlots.of_keeps grow)
    generalize h3.push { cls := .type "tuple", data := .seq cs.toArray } = h4 at f4 u4
    cases b with
    | true =>
      obtain ⟨hd, yes⟩ := yes rfl
      subst hd
      have nb2 : ∀ b o, sI.heap.get? b = some o → b ∉ frs (X.env :: X.outer) → B.get? b = some o := by
        rw [← e1]
        exact nb
      have aB : B.get? a = none := g3.2.1
      have old : X.s_0.heap.get? a = none := by
        cases z : X.s_0.heap.get? a with
        | none => rfl
        | some o =>
          obtain ⟨u, hu⟩ := J.base.there a o z (by rw [e3]; exact fun q => nomatch q)
          have := nb2 a u hu apart
          rw [aB] at this
          cases this
      have np : ∀ p ∈ X.pn ++ pins, p.1 ≠ a := fun p hp z => by
        obtain ⟨y1, _, y3, y4, _⟩ := J.pin p hp
        have := nb2 p.1 _ y1 (fun hm => by
          obtain ⟨v, hv, q⟩ := List.mem_filterMap.mp hm
          rcases List.mem_cons.mp hv with rfl | hv
          · rw [e2] at q
            exact y3 (Option.some.inj q).symm
          · exact y4 (List.mem_filterMap.mpr ⟨v, hv, q⟩))
        rw [z, aB] at this
        cases this
      refine codeAny_handlers_suite_as (HandSPX.lands_againZ f4 fun h5 f5 u5 => ?_)
      have J5 : Inv X pins σ' H' { s' with heap := h5 } := J.landed nb f5.1 (u4.trans u5) os ag
      obtain ⟨oe5, vs5, _, _, _, p1, p2, p3, _⟩ := id f5.2.2.2
      refine store_ok (X := X.suite a ((a, oe5) :: (X.pn ++ pins))) (v := .ref a) (J5.suite p1 p3 na aL aF) nd ni (.inl nk) rfl (fun s6 J6 => ?_) (.inr nk)
      refine wpAny_mono ((B2 a oe5 cls none (X.pn ++ pins) p2 ⟨_, p3⟩).run [] s6 _ H' _ J6 (yes a na)) (fun f s7 fin => ?_) (fun _ _ z => z.elim)
      cases f with
      | next =>
        obtain ⟨σ7, H7, J7, k7⟩ := fin
        refine gone_ok (X := X.suite a ((a, oe5) :: (X.pn ++ pins))) J7 nd ni nk fun s8 J8 => ?_
        obtain ⟨y1, y2, _⟩ := J8.pin (a, oe5) (List.mem_append_left _ List.mem_cons_self)
        refine ⟨_, _, track (J8.unsuite ok) y2 old aL (fun x c hx z => ?_) np (caO_ok y1 p2 p3), k7⟩
        obtain ⟨v, o, ho, hv⟩ := J8.cell x c hx
        rw [z, y1] at ho
        cases ho
        rw [p3] at hv
        cases hv
      | brk => exact fin.elim fun _ h => h.elim fun _ h => h.2.elim
      | cont => exact fin.elim fun _ h => h.elim fun _ h => h.2.elim
      | ret u => exact fin.elim fun _ h => h.elim fun _ h => h.elim fun _ h => h.2.2.elim
    | false =>
      show wpAny _ X.A (handleBy (.ref a) X.env []) _ _ _
      refine wpAny_handleBy_nil ?_
      obtain ⟨_, _, T4, _, _, w1, _, w3, w4, _⟩ := id f4.2.2.2
      unfold PySem.passOn
      refine wpAny_bind (wpAny_field w1 w3 w4 ?_)
      rw [if_neg (show ¬ ((Value.ref T4 == Value.none) = true) by simp)]
      have on : wpAny (model X.prog X.w) X.A (setFlight (.ref a) X.env.frame) (fun _ z => wpAny (model X.prog X.w) X.A (throw (.ref a) : Sem Flow) (SP X pins D) X.xe z) X.xe { s' with heap := h4 } := by
        rw [e2]
        refine HandSPX.setFlight_upZ f4 fun h6 held u6 => wpAny_throw (tk _ _ ⟨a, B, sI, pins, σ', H', cls, d, rfl, J, nb, u4.trans u6, ?_, na, os, ag, no rfl⟩)
        rw [e1]
        exact .inr (.inr held)
      first
        | exact wpAny_bind (wpAny_pure (wpAny_bind on))
        | exact wpAny_bind on
  · cases f with
    | next =>
      obtain ⟨σ1, H1, J1, k1⟩ := done
      exact wpAny_execs_nil ⟨σ1, H1, J1.ofTry ok, k1⟩
    | brk =>
      obtain ⟨σ1, H1, J1, k1⟩ := done
      exact ⟨σ1, H1, J1.ofTry ok, k1⟩
    | cont =>
      obtain ⟨σ1, H1, J1, k1⟩ := done
      exact ⟨σ1, H1, J1.ofTry ok, k1⟩
    | ret u =>
      obtain ⟨v1, σ1, H1, J1, r1, k1⟩ := done
      exact ⟨v1, σ1, H1, J1.ofTry ok, r1, k1⟩
end
/-! ## isinstance of a caught exception -/
def rIsC (K : PySem.W.Frag) : List V → Hp → VK → Prop := fun xs H Q => ∃ (a D : Addr) (c : V) (cv : Value) (b : Bool), xs = [.ref a, c] ∧ H a = some (CaO (.ref D) a) ∧ ExcC K D ∧ ClsV c cv ∧ PySem.W.kitOne K (.ref D) cv = some b ∧ Q (.bl b) H
def rIsCT (K : PySem.W.Frag) : List V → Hp → VK → Prop := fun xs H Q => ∃ (a D tp : Addr) (cs : List V) (us : List Value) (b : Bool), xs = [.ref a, .ref tp] ∧ H a = some (CaO (.ref D) a) ∧ ExcC K D ∧ H tp = some (.tup cs) ∧ Paired ClsV cs us ∧ PySem.W.kitAny K (.ref D) us = some b ∧ Q (.bl b) H
section
variable {X : Cx} {K : PySem.W.Frag}
theorem caO_at {pins : List (Addr × Obj)} {σ : L2.St} {H : Hp} {s : Shared} {a D : Addr} (I : Inv X pins σ H s) (e : H a = some (CaO (.ref D) a)) : ∃ oe, PySem.W.InstAt s.heap a oe D none := by
  obtain ⟨⟨oe, vs, h1, h2, h3, h4⟩, _⟩ := (show ObjOk X.prog X.w H s.heap a (CaO (.ref D) a) from I.hok a _ e)
  refine ⟨oe, ?_⟩
  obtain ⟨oc, od, oda, osl⟩ := oe
  dsimp only at h2 h3 h4
  subst h2 h3 h4
  exact ⟨h1, rfl, rfl, trivial⟩
theorem kc_isC (e : X.K = K) : CallR X (.builtin "isinstance") (rIsC K) := by
  subst e
  intro pins s σ H xs us Q I r h
  obtain ⟨a, D, c, cv, b, rfl, ha, C, k, e, q⟩ := h
  obtain ⟨u1, u2, rfl, r1, r2⟩ := vals2 r
  cases (show u1 = Value.ref a from r1)
  have e2 := k.eq r2
  subst e2
  obtain ⟨oe, J⟩ := caO_at I ha
  exact PySem.W.kia_one (PySem.W.handS_kitx_exc C.hg C.hk C.hs C.hd C.ha C.hn C.ht C.hm) I.kIn J e (fun z => nomatch z) fun tk => ⟨.bl b, H, I.tok tk, rfl, q⟩
theorem kc_isCT (e : X.K = K) : CallR X (.builtin "isinstance") (rIsCT K) := by
  subst e
  intro pins s σ H xs us Q I r h
  obtain ⟨a, D, tp, cs, ws, b, rfl, ha, C, hT, k, e, q⟩ := h
  obtain ⟨u1, u2, rfl, r1, r2⟩ := vals2 r
  cases (show u1 = Value.ref a from r1)
  cases (show u2 = Value.ref tp from r2)
  obtain ⟨oe, J⟩ := caO_at I ha
  obtain ⟨_, its, rv, o, h1, h2, n, h3⟩ := (show ObjOk X.prog X.w H s.heap tp (.tup cs) from I.hok tp _ hT)
  have e3 := ClsV.all k rv
  subst e3
  obtain ⟨oc, od, dt, sl⟩ := o
  dsimp only at h2 h3
  subst h2 h3
  exact PySem.W.kia_tup (PySem.W.handS_kitx_exc C.hg C.hk C.hs C.hd C.ha C.hn C.ht C.hm) I.kIn J h1 e (fun z => nomatch z) fun tk => ⟨.bl b, H, I.tok tk, rfl, q⟩
end
/-! ## calls of defs that raise -/
section
variable {X : Cx} {k : Nat} {ps : List Str} {sp : Sp} {W : WX} {x : Str} {st : Stmt} {p pos : Pos} {e : Expr} {es : List Expr} {t tk : TA} {kws : List Keyword} {ks : List Str}
  {g : List Value → List Value → List Value} {gV : List V → List V → List V}
/-- what a def lets out goes on as it is -/
theorem passT {E : XK} (tk : Takes X (fun cls d _ H => E cls d H)) : Passes (L2.CX X.prog X.w) X E := fun _ _ _ _ e s' I c => tk e s' (XE.of_call I (fun _ _ _ h => h) c)
theorem Dok.afterW {f : Addr} {fd : FuncData} (F : Dok X.prog X.w X.K X.mg X.base (L2.CX X.prog X.w) k f fd ps sp) (hr : Rm k X.A) (hx : Takes X W) {pins : List (Addr × Obj)} {σ : L2.St} {H : Hp} {s : Shared} {Q : VK} {args : Args} {us : List Value} {vs : List V}
    (I : Inv X pins σ H s) (r : Vals vs us) (hb : BindsTo s fd args (ps.zip us)) (h : sp vs H Q (fun cls d H' => W cls d σ H')) : codeAny (model X.prog X.w) X.A (.call (.ref f) args) (fun r s' => match r with | .ok (.ret u) => EP X pins σ Q u s' | .ok _ => False | .error e => X.xe e s') s := by
  refine codeAny_mono (F.run X.A X.stack s H args us vs Q _ hr I.env0 hb r h) fun o s' q => ?_
  cases o with
  | error e => exact hx e s' (XE.of_call I (fun _ _ _ h => h) q)
  | ok fl =>
    cases fl with
    | ret u => exact I.after q
    | next => exact q.elim
    | brk => exact q.elim
    | cont => exact q.elim
/-- f(k = v, ..) in a try -/
def tCallW (sp : Sp) (gV : List V → List V → List V) (W : WX) (tk : TA) : TE := fun σ H Q => tk σ H fun zs H2 => sp (gV [] zs) H2 Q (fun cls d H' => W cls d σ H')
theorem c_callW (c : Cal X.prog X.w X.K X.mg X.base (L2.CX X.prog X.w) k x st ps sp) (hr : Rm k X.A) (hx : Takes X W) (hkw : PK X kws tk)
    (h : ∀ (kV doc pm : Value) (an : Option Addr) (cdv ct : Value) (us ws : List Value), (g us ws).length = ps.length →
      bindArgs (PySem.W.fnOf x x (defArgs st) (defBody st) (defScope st) .none kV doc pm an cdv ct) ⟨us, ks.zip ws⟩ = pure (ps.zip (g us ws)))
    (rel : ∀ {vs : List V} {us : List Value} {zs : List V} {ws : List Value}, Vals vs us → Vals zs ws → Vals (gV vs zs) (g us ws)) (hg : Gl X x := by rfl)
    (hall : (backToKw pos (keywordEach kws X.env)).all (·.1.isSome) = true := by rfl) (hks : (backToKw pos (keywordEach kws X.env)).filterMap (·.1) = ks := by rfl)
    (hdb : (x == ("__debug__" : Str)) = false := by decide)
    (hpl : ((backTo pos (starEach [] X.env)).any (·.1) || (backToKw pos (keywordEach kws X.env)).any (·.1.isNone)) = false := by rfl) :
    PE X (.Call (.Name x p) [] kws pos) (tCallW sp gV W tk) := by
  obtain ⟨f, fd, o, d⟩ := c
  have hb : KBinds X.K fd ps ks g gV := kbOf o.F h rel
  refine ⟨fun pins s σ H Q I q => wpAny_Call_Name_kw (ld_glob I hg o.g (PySem.W.callWith_KW0 (h₀ := X.base) I.ok.mod.kin o.F.kp hall (thn (hkw.run pos pins s σ H _ I q) ?_) hpl) hdb)⟩
  rintro ws s2 ⟨zs, H2, I2, rz, q2⟩
  refine ⟨I2.kIn, ?_⟩
  rw [hks]
  have r2 := hb.rel (.nil : Vals [] []) rz
  refine ends (d.afterW hr hx I2 r2 (hb.to s2 [] ws I2.kIn ?_) q2)
  rw [← r2.length]
  exact d.len _ _ _ _ q2
/-- f(a, ..) in a try -/
def tCallP (sp : Sp) (W : WX) (t : TA) : TE := fun σ H Q => t σ H fun vs H2 => sp (vs ++ []) H2 Q (fun cls d H' => W cls d σ H')
theorem c_callP (c : Cal X.prog X.w X.K X.mg X.base (L2.CX X.prog X.w) k x st ps sp) (hr : Rm k X.A) (hx : Takes X W) (ha : PA X (e :: es) t) (hg : Gl X x := by rfl)
    (hdb : (x == ("__debug__" : Str)) = false := by decide) (he : starEach (e :: es) X.env = (false, eval e X.env) :: starEach es X.env := by rfl) (hpl : (backTo pos (starEach es X.env)).any (·.1) = false := by rfl) :
    PE X (.Call (.Name x p) (e :: es) [] pos) (tCallP sp W t) := by
  obtain ⟨f, fd, o, d⟩ := c
  refine ⟨fun pins s σ H Q I q => wpAny_Call_Name_kw (ld_glob I hg o.g (PySem.W.callWith_K (h₀ := X.base) I.ok.mod.kin o.F.kp (thn (ha.run pos pins s σ H _ I q) ?_) he hpl) hdb)⟩
  rintro us s1 ⟨vs, H1, I1, r, q1⟩
  refine ⟨I1.kIn, ?_⟩
  have r2 : Vals (vs ++ []) (us ++ []) := r.append .nil
  refine ends (d.afterW hr hx I1 r2 (o.b s1 us I1.kIn ?_) q1)
  rw [← r2.length]
  exact d.len _ _ _ _ q1
end
/-! ## facts of classes, put together -/
section
open PySem.W
variable {K : PySem.W.Frag} {t c : Value} {C : Addr} {b d : Bool} {r : List Value} {T : String}
theorem exmAny_mk (h1 : exmOne K t c = some b) (h2 : exmAny K t r = some d) : exmAny K t (c :: r) = some (b || d) := by
  unfold exmAny
  rw [h1, h2]
theorem kit_ref (h1 : hasDictIn K C = true) (h2 : typeIn K (.ref C) = some (.type "type")) (h3 : subIn K t (.ref C) = some b) (h4 : t = .ref C → b = true) : kitOne K t (.ref C) = some b := by
  unfold kitOne
  by_cases e : (t == .ref C) = true
  · rw [if_pos e, h4 (beq_iff_eq.mp e)]
  · rw [if_neg e]
    obtain ⟨cd, hc, _⟩ := any_some h1
    have e2 : ((clsIn K C).isSome && typeIn K (.ref C) == some (.type "type")) = true := by rw [hc, h2] <;> rfl
    show (if ((clsIn K C).isSome && typeIn K (.ref C) == some (.type "type")) = true then subIn K t (.ref C) else none) = some b
    rw [if_pos e2]
    exact h3
theorem kit_typ (m : kitMeta T = true) (h : subIn K (.ref C) (.type T) = some b) : kitOne K (.ref C) (.type T) = some b := by
  unfold kitOne
  rw [if_neg (fun e => by cases (beq_iff_eq.mp e))]
  show (if kitMeta T = true then subIn K (.ref C) (.type T) else none) = some b
  rw [if_pos m]
  exact h
theorem kitAny_mk (h1 : kitOne K t c = some false) (h2 : kitAny K t r = some false) : kitAny K t (c :: r) = some false := kitAny_cons h1 (fun _ => h2) (fun e => nomatch e)
end
end Xi

namespace Xi
open PySem PySem.Spec PyProof.Rows L2
/-! ## sorted(set(xs)), whole numbers, any number of them -/
/-- a set as it is made -/
abbrev freshO (w : World) : Obj := { cls := .type "set", dict := none, data := .set #[] 0 (.fresh 0 0 (!w.params.followText "set-order")) }
section
variable {P : Program} {w : World} {A : Around} {E : Value → Shared → Prop} {s : Shared}
set_option maxHeartbeats 6400000 in
theorem set_list {l : Addr} {xs : Array Value} (ns : List Int) {Q : Value → Shared → Prop} (h0 : A.handled = none) (L : s.heap.IsList l xs) (itsI : IntsAre xs.toList ns) (few : ns.length + 1 < scanBound)
    (k : ∀ (h' : Heap) (tk c : Nat), SetR w h' s.heap.objs.size (fun j => decide (j ∈ ns)) c → c ≤ ns.length → (∀ b o, s.heap.get? b = some o → h'.get? b = some o) → Q (.ref s.heap.objs.size) { s with heap := h', toks := tk }) :
    wpAny (model P w) A (call (.type "set") [.ref l]) Q E s := by
  have sz : xs.size = ns.length := by
    have q := IntsAre.length itsI
    rwa [Array.length_toList] at q
  obtain ⟨c, tl, f1⟩ := F.called_set.mro
  have f2 := F.called_set.made
  have f3 := F.called_set.sub
  refine wpAny_call (codeAny_of_tree (by
    show wpAny _ _ (callAny (.type "set") _) _ _ _
    refine wpAny_pure ⟨Code.quiet_builtin _ (by decide +kernel), codeAny_builtin F.entry_type_call ?_⟩
    rw [Around.under_plain (weight_type_call_type "set" [.ref l] []) rfl]
    have f4 := F.called_set.notType
    have f5 := F.called_set.canCreate
    have f6 := F.typeCall_set_1 (.ref l)
    repeat (any_goals (first | assumption | wp_step))
    refine codeAny_mono (code_set_led1 (.ref l) (E := E) (Q₁ := fun u z => u = .ref s.heap.objs.size ∧ z = { s with heap := s.heap.push (freshO w) }) ⟨rfl, rfl⟩) fun r z hr => ?_
    cases r with
    | error e => exact hr
    | ok fl =>
      cases fl with
      | next => exact hr.elim
      | brk => exact hr.elim
      | cont => exact hr.elim
      | ret u =>
        obtain ⟨rfl, rfl⟩ := hr
        have at_ : (s.heap.push (freshO w)).get? s.heap.objs.size = some (freshO w) := Heap.get?_push_size _ rfl
        have ty : Shared.TypeIs { s with heap := s.heap.push (freshO w) } (.ref s.heap.objs.size) "set" := ⟨_, at_, rfl⟩
        have f7 := F.called_set.init.lookup
        have f8 := F.called_set.init.bind (.ref s.heap.objs.size)
        repeat (any_goals (first | assumption | wp_step))
        refine codeAny_mono (codeAny_call_builtin (R := wants (fun r z => r = .none ∧ ∃ h' tk c, z = { s with heap := h', toks := tk } ∧ SetR w h' s.heap.objs.size (fun j => decide (j ∈ ns)) c ∧ c ≤ ns.length ∧ ∀ b o, s.heap.get? b = some o → h'.get? b = some o) E)
          F.called_set.init.plain F.entry_set_init (check_set_init_1 ty ?_)) fun r₂ z₂ hr₂ => ?_
        · obtain ⟨⟨oc, od, dt, sl⟩, ol, hc, n0, hd⟩ := L
          dsimp only at hc hd
          subst hc
          subst hd
          have ol' := Heap.get?_push_of_some (freshO w) ol
          have g1 := F.sub_list_set
          have g2 := F.sub_list_frozenset
          have g3 : (Value.type "list" == Value.type "dict") = false := by decide
          have L1 : (s.heap.push (freshO w)).IsList l xs := ⟨_, ol', rfl, n0, rfl⟩
          unfold Builtin.«set.__init__» noKeywords Builtin.Frozenset.updateFrom
          generalize hPI : pyIter = PI
          wp_walk
          subst hPI
          refine wpAny_pyIter_list L1 (wpAny_bind (wpAny_runValue ?_))
          have lt := Heap.lt_size ol
          have sz1 : (s.heap.push (freshO w)).objs.size = s.heap.objs.size + 1 := Heap.size_push ..
          have up1 : ∀ {b : Addr}, b < s.heap.objs.size → b ≠ (s.heap.push (freshO w)).objs.size := fun hb => Nat.ne_of_lt (by rw [sz1]; exact Nat.lt_succ_of_lt hb)
          have ne1 := up1 lt
          have ni : s.heap.objs.size ∉ [(s.heap.push (freshO w)).objs.size, l] := by
            simp only [List.mem_cons, List.not_mem_nil, or_false, not_or]
            exact ⟨Nat.ne_of_lt (by rw [sz1]; exact Nat.lt_succ_self _), (Nat.ne_of_lt lt).symm⟩
          have val : ∀ (i : Nat) (v : Value), xs[i]? = some v → ∃ k t, ns[i]? = some k ∧ v = .int k t := fun i v hv => by
            have hi : i < ns.length := by
              rw [← sz]
              exact (Array.getElem?_eq_some_iff.mp hv).1
            obtain ⟨t, e⟩ := IntsAre.int_at itsI i v (by rw [Array.getElem?_toList]; exact hv)
            refine ⟨ns[i], t, List.getElem?_eq_getElem hi, ?_⟩
            rw [e, List.getD_eq_getElem?_getD, List.getElem?_eq_getElem hi] <;> rfl
          have h3 : A.in1.in1.in1.handled = none := by simp [h0]
          refine set_update_ints ((Walks.list h3 _ l ne1 xs).toS) s.heap.objs.size ni ns sz few val (xs.size - 0) 0 _ (by omega) (Nat.zero_le _) ⟨⟨_, Heap.get?_push_size _ rfl, rfl, rfl⟩, L1.push _⟩
            ⟨0, Nat.le_refl 0, setR_new_at (Heap.get?_push_of_some _ at_)⟩ ?_
          rintro ⟨h', g', d', tk', os'⟩ c' mv hc' R'
          cases (show g' = s.gens from mv.gens)
          cases (show d' = s.drawn from mv.drawn)
          cases (show os' = s.os from mv.os)
          show wpAny _ _ _ _ _ _
          refine wpAny_pure ?_
          show wpAny _ _ (ret Value.none) _ _ _
          rw [sz] at hc'
          refine wpAny_pure ⟨rfl, h', tk', c', rfl, R', hc', fun b o e => ?_⟩
          have lb := Heap.lt_size e
          refine mv.heap b o ?_ (Heap.get?_push_of_some _ (Heap.get?_push_of_some _ e))
          simp only [List.mem_cons, List.not_mem_nil, or_false, not_or]
          exact ⟨Nat.ne_of_lt lb, up1 lb⟩
        · cases r₂ with
          | error e => exact hr₂
          | ok fl₂ =>
            cases fl₂ with
            | next => exact hr₂.elim
            | brk => exact hr₂.elim
            | cont => exact hr₂.elim
            | ret r =>
              obtain ⟨rfl, h', tk, c', rfl, R', hc', keep⟩ := hr₂
              repeat (any_goals (first | assumption | wp_step))
              exact k _ _ _ R' hc' keep))
/-- sorted(a set of whole numbers), any number of them -/
theorem sorted_many {a : Addr} {S : Int → Bool} {n : Nat} {Q : Value → Shared → Prop} (R : SetR w s.heap a S n) (h0 : A.handled = none) (few : n ≤ 100000)
    (k : ∀ z p (out : Array Value) (c : Nat) (ns : List Int), (∀ b o, s.heap.get? b = some o → z.heap.get? b = some o) → z.gens = s.gens → z.os = s.os → s.heap.objs.size ≤ p →
      z.heap.get? p = some (seqObj "list" out c) → IntsAre out.toList ns → ns.Pairwise (· < ·) → (∀ k, k ∈ ns ↔ S k = true) → ns.length = n → Q (.ref p) z) :
    wpAny (model P w) A (call (.builtin "sorted") [.ref a]) Q E s := by
  obtain ⟨o, es, ep, t, x1, x2, x3, x4, x5, x6, x7, x8, x9, x10, x11⟩ := R
  refine Calls.call_function_entry kind_sorted plain_sorted entry_sorted (args_sorted1 _) ?_
  unfold Builtin.«sorted»
  refine wpAny_bind (m := checkCount "sorted" 1 1 _) (wpAny_pure (wpAny_bind (collect_set (A := A.in1) h0 ⟨o, x1, x2.1, x3⟩ x8 x7 x10 x11 fun z vs y1 y2 y3 y4 pm => ?_)))
  have vl : vs.length = n := by
    rw [pm.length_eq, List.length_map, Array.length_toList]
    exact x9
  have iv : IntsAre vs (vs.map Builtin.Re.reRawOf) := ints_of vs fun v hv => by
    obtain ⟨e, he, rfl⟩ := List.mem_map.mp (pm.mem_iff.mp hv)
    obtain ⟨j, tj, q, _⟩ := x4 e he
    exact ⟨j, tj, q⟩
  have pk : (vs.map Builtin.Re.reRawOf).Perm (es.toList.map keyOf) := by
    have q := pm.map Builtin.Re.reRawOf
    rwa [List.map_map] at q
  have z1 : vs.length ≤ sizeLine := by
    rw [vl]
    exact Nat.le_of_lt (long_ok few)
  refine wpAny_bind (wpAny_newList ?_ z1)
  have ob : (z.heap.push (seqObj "list" vs.toArray 0)).get? z.heap.objs.size = some (seqObj "list" vs.toArray 0) := Heap.get?_push_size _ rfl
  refine wpAny_bind (wpAny_holding (wpAny_call_entry slot_list_sort ⟨_, ob, rfl⟩ entry_list_sort
    (SrtO.list_sort_ord SrtO.swo_int ob z1 (fun h2 => SrtO.ints_sortable iv h2) fun out a1 a2 => ⟨_, rfl, ?_⟩) (args_list_sort _)))
  obtain ⟨b1, b2, b3⟩ := SrtO.ints_out iv a1 a2
  obtain ⟨c, hc⟩ := sortedHeap_at (vs := vs) (out := out.toArray) ob
  have pn : (out.map SrtO.iv).Perm (es.toList.map keyOf) := b2.trans pk
  refine wpAny_pure ⟨_, rfl, k _ z.heap.objs.size out.toArray c (out.map SrtO.iv) (fun b u e => ?_) y3 y4 y2 hc b1 (lt_of_le_nodup _ b3 (pn.nodup_iff.mpr x5)) (fun j => by rw [pn.mem_iff, ← x6 j]) ?_⟩
  · have q := y1 b u e
    have lt := Heap.lt_size q
    show (sortedHeap (z.heap.push (seqObj "list" vs.toArray 0)) z.heap.objs.size vs out.toArray).get? b = some u
    rw [sortedHeap_old (Nat.ne_of_lt lt) (by rw [size_push']; exact Nat.lt_succ_of_lt lt)]
    exact Heap.get?_push_of_some _ q
  · rw [pn.length_eq, List.length_map, Array.length_toList]
    exact x9
end
/-! ## as rules -/
def rSetS (w : World) (K : PySem.W.Frag) : List V → Hp → VK → Prop := fun xs H Q => ∃ (l : Addr) (ns : List Int), xs = [.ref l] ∧ SqL K H l (ns.map V.int) ∧ ns.length ≤ 4000 ∧ ∀ p c, H p = none → c ≤ ns.length → Q (.ref p) (upd H p (SetO w p (fun j => decide (j ∈ ns)) c))
def rSortS (w : World) : List V → Hp → VK → Prop := fun vs H Q => ∃ (a : Addr) (S : Int → Bool) (n : Nat), vs = [.ref a] ∧ H a = some (SetO w a S n) ∧ n ≤ 100000 ∧
  ∀ (ns : List Int) (p : Addr), ns.Pairwise (· < ·) → (∀ k : Int, k ∈ ns ↔ S k = true) → ns.length = n → H p = none → Q (.ref p) (upd H p (.lst (ns.map V.int)))
section
variable {X : Cx} {K : PySem.W.Frag}
theorem kc_setS (e : X.K = K) (hc : X.calm = true) : CallR X (.type "set") (rSetS X.w K) := by
  subst e
  intro pins s σ H xs us Q I r h
  obtain ⟨l, ns, rfl, hl, hz, q⟩ := h
  rw [Vals.ref1 r]
  obtain ⟨its, rv, pl, _⟩ := I.list hl
  refine set_list ns (I.ok.hd hc) pl.isList (by simpa using RZ.intsAre_vals rv) (by unfold scanBound; omega) fun h' tk c R hc' keep => ?_
  have hf : H s.heap.objs.size = none := I.hok.fresh (Nat.le_refl _)
  exact ⟨.ref s.heap.objs.size, _, I.laid (t' := tk) keep (Nat.le_refl _) (setO_new R), rfl, q _ _ hf hc'⟩
theorem kc_sortS (hc : X.calm = true) : CallR X (.builtin "sorted") (rSortS X.w) := by
  intro pins s σ H vs us Q I r h
  obtain ⟨a, S, n, rfl, ha, few, q⟩ := h
  rw [Vals.ref1 r]
  refine sorted_many (setO_get I ha) (I.ok.hd hc) few fun z p out c ns y1 y2 y3 y4 y5 y6 y7 y8 y9 => ?_
  have lz : (ns.map V.int).length ≤ sizeLine := by
    rw [List.length_map, y9]
    exact Nat.le_of_lt (long_ok few)
  have hf : H p = none := I.hok.fresh y4
  have J : Inv X pins σ (upd H p (.lst (ns.map V.int))) { s with heap := z.heap, gens := z.gens, drawn := z.drawn, toks := z.toks } :=
    I.call (ch := []) (Un.laid y1 y4 hf) (I.hok.laid y1 y4 ⟨lz, out.toList, c, vals_of_ints y6, y5⟩) (by rw [y2]; exact I.bare) (fun _ z => nomatch z)
  have e : z = { s with heap := z.heap, gens := z.gens, drawn := z.drawn, toks := z.toks } := by
    cases z
    cases s
    cases y3
    rfl
  rw [e]
  exact ⟨.ref p, _, J, rfl, q ns p y7 y8 y9 hf⟩
end
end Xi

namespace Lw
open PySem PySem.Spec PyProof.Rows L2 Xi
def topS (i : Nat) : Stmt := PySem.Challenge.pw_pleatpunch_k11_foldings_judged.main.body.getD i (.Pass ⟨0, 0, 0, 0⟩)
structure Txt (mg : Str → Option Value) : Prop where
  ValueError : mg "ValueError" = none
  abs : mg "abs" = none
  enumerate : mg "enumerate" = none
  int : mg "int" = none
  isinstance : mg "isinstance" = none
  len : mg "len" = none
  list : mg "list" = none
  max : mg "max" = none
  min : mg "min" = none
  range : mg "range" = none
  repr : mg "repr" = none
  set : mg "set" = none
  sorted : mg "sorted" = none
  c_MOST_CELLS : ∃ t, mg "MOST_CELLS" = some (.int 200 t)
abbrev s_is_rising : Stmt := topS 14
theorem sc_is_rising : FnScope ["numbers", "end", "ahead", "number"] ["numbers", "end"] (defScope s_is_rising) := ⟨rfl, rfl, rfl, by decide +kernel, rfl, by decide +kernel, by decide +kernel⟩

def risB (m : Int) : Int → List Int → Bool
  | _, [] => true
  | a, c :: r => decide (a < c) && decide (c < m) && risB m c r
theorem risB_cons (m a c : Int) (r : List Int) : risB m a (c :: r) = (decide (a < c) && decide (c < m) && risB m c r) := rfl
section
variable {P : Program} {w : World} {K : PySem.W.Frag} {mg : Str → Option Value} {base : Heap}
def sp_is_rising : Sp := fun vs H Q _ => ∃ (a : Addr) (m : Int) (fs : List Int), vs = [.ref a, .int m] ∧ H a = some (.lst (fs.map V.int)) ∧ Q (.bl (risB m (-1) fs)) H
theorem ok_is_rising {f : Addr} {fd : FuncData} (o : Own K mg "is_rising" s_is_rising ["numbers", "end"] f fd) (T : Txt mg) : Cal P w K mg base CX0 1 "is_rising" s_is_rising ["numbers", "end"] sp_is_rising := by
  refine ⟨f, fd, o, ?_⟩
  refine Dok.calm o.F sc_is_rising (fun vs H Q E h => ?_) (fun cdv A outer s H vs Q E hr h => ?_)
  · obtain ⟨a, m, fs, rfl, _⟩ := h
    rfl
  obtain ⟨a, m, fs, rfl, ea, k⟩ := h
  refine ⟨_, (pss_cons (ps_set (i := 2) sc_is_rising.nd rfl (Or.inl rfl) (pe_un un_neg pe_int))
    (pss_cons (ps_for PassesOwn.never rfl (pi_list (pv 0)) (pg_name (i := 3) sc_is_rising.nd rfl (Or.inl rfl)) (pss_cons (ps_if (pt_not (pt_chain op_lt op_lt (pv 2) (pv 3) (pv 1))) (pss_one (ps_ret pe_bl)) pss_nil)
    (pss_one (ps_set (i := 2) sc_is_rising.nd rfl (Or.inl rfl) (pv 3)))))
    (pss_one (ps_ret pe_bl)))), ?_⟩
  have out : ∀ {b : Bool}, risB m (-1) fs = b → Q (.bl b) H := fun e => e ▸ k
  refine ⟨1, rfl, ?_⟩
  refine ⟨.ref a, rfl, a, rfl, ⟨_, SqL.of ea⟩, ?_⟩
  refine for_it (walk_list (xs := fs.map V.int)) (fun i σ H' => ∃ (ah : Int) (v3 : Option V), σ = [some (.ref a), some (.int m), some (.int ah), v3] ∧ H' = H ∧ i ≤ fs.length ∧ risB m (-1) fs = risB m ah (fs.drop i)) ⟨-1, none, rfl, rfl, Nat.zero_le _, rfl⟩ (fun i σ H' _ ⟨_, _, _, e, _⟩ => SqL.of (e ▸ ea)) ?_ ?_
  · rintro i x σ H1 H1' hi ⟨ah, v3, rfl, rfl, hl, hr⟩ ⟨rfl, ex⟩
    obtain ⟨c, ec, rfl⟩ : ∃ c, fs[i]? = some c ∧ x = .int c := by
      rw [List.getElem?_map] at ex
      cases e : fs[i]? with
      | none => rw [e] at ex; cases ex
      | some c => rw [e] at ex; exact ⟨c, rfl, (Option.some.inj ex).symm⟩
    have hlt : i < fs.length := (List.getElem?_eq_some_iff.mp ec).1
    have ed : fs.drop i = c :: fs.drop (i + 1) := by
      rw [List.drop_eq_getElem_cons hlt]
      rw [List.getElem?_eq_getElem hlt] at ec
      rw [Option.some.inj ec]
    rw [ed, risB_cons] at hr
    by_cases d1 : ah < c
    · refine ⟨.int ah, rfl, .int c, rfl, ah, c, rfl, rfl, true, by show V.bl (decide (ah < c)) = _; rw [decide_eq_true d1], iteT ?_⟩
      by_cases d2 : c < m
      · refine ⟨.int m, rfl, c, m, rfl, rfl, true, by show V.bl (decide (c < m)) = _; rw [decide_eq_true d2], iteF ?_⟩
        refine ⟨.int c, rfl, c, _, rfl, rfl, hlt, ?_⟩
        rw [hr, decide_eq_true d1, decide_eq_true d2]
        rfl
      · refine ⟨.int m, rfl, c, m, rfl, rfl, false, by show V.bl (decide (c < m)) = _; rw [decide_eq_false d2], iteT ?_⟩
        refine out ?_
        rw [hr, decide_eq_true d1, decide_eq_false d2]
        rfl
    · refine ⟨.int ah, rfl, .int c, rfl, ah, c, rfl, rfl, false, by show V.bl (decide (ah < c)) = _; rw [decide_eq_false d1], iteF ⟨false, rfl, iteT ?_⟩⟩
      refine out ?_
      rw [hr, decide_eq_false d1]
      rfl
  · rintro σ H1 ⟨ah, v3, rfl, rfl, _, hr⟩
    rw [List.length_map, List.drop_of_length_le (Nat.le_refl _)] at hr
    refine out ?_
    rw [hr]
    rfl
end
abbrev s_is_folding : Stmt := topS 16
theorem sc_is_folding : FnScope ["many", "folds"] ["many", "folds"] (defScope s_is_folding) := ⟨rfl, rfl, rfl, by decide +kernel, rfl, by decide +kernel, by decide +kernel⟩

abbrev s_places : Stmt := topS 17
theorem sc_places : FnScope ["many", "folds"] ["many", "folds"] (defScope s_places) := ⟨rfl, rfl, rfl, by decide +kernel, rfl, by decide +kernel, by decide +kernel⟩

abbrev s_cells_at : Stmt := topS 18
theorem sc_cells_at : FnScope ["many", "folds", "place", "cell", "at"] ["many", "folds", "place"] (defScope s_cells_at) := ⟨rfl, rfl, rfl, by decide +kernel, rfl, by decide +kernel, by decide +kernel⟩

abbrev s_stacks : Stmt := topS 19
theorem sc_stacks : FnScope ["many", "folds", "laid", "least", "_", "piles", "cell", "place"] ["many", "folds"] (defScope s_stacks) := ⟨rfl, rfl, rfl, by decide +kernel, rfl, by decide +kernel, by decide +kernel⟩

/-! ### foldings: the mathematics -/
def risingB (m : Int) : Int → List Int → Bool
  | _, [] => true
  | a, c :: r => decide (a < c) && decide (c < m - 1) && risingB m c r
theorem risingB_cons (m a c : Int) (r : List Int) : risingB m a (c :: r) = (decide (a < c) && decide (c < m - 1) && risingB m c r) := rfl
def isF (m : Int) (fs : List Int) : Bool := decide (1 ≤ m) && decide (m ≤ 200) && risingB m (-1) fs
/-- place and way behind n cells -/
def stF (fs : List Int) : Nat → Int × Int
  | 0 => (0, 1)
  | n + 1 => if (n : Int) ∈ fs then ((stF fs n).1, -(stF fs n).2) else ((stF fs n).1 + (stF fs n).2, (stF fs n).2)
def posF (fs : List Int) (n : Nat) : Int := (stF fs n).1
def placesL (m : Int) (fs : List Int) : List Int := (List.range m.toNat).map (posF fs)
theorem stF_way (fs : List Int) : ∀ n, (stF fs n).2 = 1 ∨ (stF fs n).2 = -1
  | 0 => .inl rfl
  | n + 1 => by
    unfold stF
    rcases stF_way fs n with h | h <;> split <;> simp [h]
theorem posF_le (fs : List Int) : ∀ n : Nat, -(n : Int) ≤ posF fs n ∧ posF fs n ≤ n
  | 0 => by
    show -(0 : Int) ≤ 0 ∧ (0 : Int) ≤ 0
    omega
  | n + 1 => by
    have ih := posF_le fs n
    have w := stF_way fs n
    unfold posF at ih ⊢
    unfold stF
    split
    · show -((n + 1 : Nat) : Int) ≤ (stF fs n).1 ∧ (stF fs n).1 ≤ ((n + 1 : Nat) : Int)
      omega
    · show -((n + 1 : Nat) : Int) ≤ (stF fs n).1 + (stF fs n).2 ∧ (stF fs n).1 + (stF fs n).2 ≤ ((n + 1 : Nat) : Int)
      omega
theorem placesL_len {m : Int} {fs : List Int} : (placesL m fs).length = m.toNat := by
  unfold placesL
  rw [List.length_map, List.length_range]
theorem risingB_len {m : Int} : ∀ {fs : List Int} {a : Int}, -1 ≤ a → risingB m a fs = true → (fs.length : Int) + a + 1 ≤ max (m - 1) (a + 1)
  | [], a, _, _ => by
    show (0 : Int) + a + 1 ≤ _
    omega
  | c :: r, a, ha, h => by
    rw [risingB_cons] at h
    simp only [Bool.and_eq_true, decide_eq_true_eq] at h
    have ih := risingB_len (fs := r) (a := c) (by omega) h.2
    show ((r.length + 1 : Nat) : Int) + a + 1 ≤ _
    omega
theorem isF_len {m : Int} {fs : List Int} (h : isF m fs = true) : 1 ≤ m ∧ m ≤ 200 ∧ fs.length ≤ 200 := by
  unfold isF at h
  simp only [Bool.and_eq_true, decide_eq_true_eq] at h
  have := risingB_len (fs := fs) (a := -1) (by omega) h.2
  omega
theorem risB_eq (m : Int) : ∀ (a : Int) (fs : List Int), risB (m - 1) a fs = risingB m a fs
  | _, [] => rfl
  | a, c :: r => by
    rw [risB_cons, risingB_cons, risB_eq m c r]
section
variable {P : Program} {w : World} {K : PySem.W.Frag} {mg : Str → Option Value} {base : Heap}
def sp_is_folding : Sp := fun vs H Q _ => ∃ (a : Addr) (m : Int) (fs : List Int), vs = [.int m, .ref a] ∧ H a = some (.lst (fs.map V.int)) ∧ Q (.bl (isF m fs)) H
theorem ok_is_folding {f : Addr} {fd : FuncData} (o : Own K mg "is_folding" s_is_folding ["many", "folds"] f fd) (T : Txt mg) (C_is_rising : Cal P w K mg base CX0 1 "is_rising" s_is_rising ["numbers", "end"] sp_is_rising) : Cal P w K mg base CX0 2 "is_folding" s_is_folding ["many", "folds"] sp_is_folding := by
  refine ⟨f, fd, o, ?_⟩
  refine Dok.calm o.F sc_is_folding (fun vs H Q E h => ?_) (fun cdv A outer s H vs Q E hr h => ?_)
  · obtain ⟨a, m, fs, rfl, _⟩ := h
    rfl
  obtain ⟨a, m, fs, rfl, ea, k⟩ := h
  refine ⟨_, (pss_one (ps_ret (pe_and (pe_chain op_le op_le pe_int (pv 0) (c_const T.c_MOST_CELLS)) (pe_one (c_call C_is_rising (hr.mono (by omega)) pass0 (pa_cons (pv 1) (pa_cons (pe_op op_sub (pv 0) pe_int) pa_nil))))))), ?_⟩
  have out : ∀ {b : Bool}, isF m fs = b → Q (.bl b) H := fun e => e ▸ k
  refine ⟨.int m, rfl, 1, m, rfl, rfl, _, rfl, ite2 (fun c1 => ?_) (fun c1 => ?_)⟩
  · refine ⟨m, 200, rfl, rfl, _, rfl, ite2 (fun c2 => ?_) (fun c2 => ?_)⟩
    · refine ⟨.ref a, rfl, .int m, rfl, m, 1, rfl, rfl, a, m - 1, fs, rfl, ea, ?_⟩
      refine out ?_
      unfold isF
      rw [c1, c2, risB_eq]
      rfl
    · refine out ?_
      unfold isF
      rw [Bool.eq_false_iff.mpr c2, Bool.and_false]
      rfl
  · refine ⟨false, rfl, ?_⟩
    refine out ?_
    unfold isF
    rw [Bool.eq_false_iff.mpr c1]
    rfl
end
/-- the cells below n that lie at pl -/
def cellsL (fs : List Int) (pl : Int) (n : Nat) : List Int := ((List.range n).filter fun i => decide (posF fs i = pl)).map fun i : Nat => (i : Int)
theorem cellsL_succ (fs : List Int) (pl : Int) (n : Nat) : cellsL fs pl (n + 1) = cellsL fs pl n ++ (if posF fs n = pl then [(n : Int)] else []) := by
  unfold cellsL
  rw [List.range_succ, List.filter_append, List.map_append]
  by_cases h : posF fs n = pl
  · simp [h]
  · simp [h]
theorem cellsL_len (fs : List Int) (pl : Int) (n : Nat) : (cellsL fs pl n).length ≤ n := by
  unfold cellsL
  rw [List.length_map]
  exact Nat.le_trans (List.length_filter_le _ _) (Nat.le_of_eq List.length_range)
/-- the lists at rs, each its own -/
def PilesAt (Hb : Hp) (D : Addr) (H' : Hp) (rs : List Addr) (f : Nat → List Int) : Prop := rs.Nodup ∧ ∀ (j : Nat) (r : Addr), rs[j]? = some r → Hb r = none ∧ r ≠ D ∧ H' r = some (.lst ((f j).map V.int))
structure IsMin (ns : List Int) (m : Int) : Prop where
  mem : m ∈ ns
  le : ∀ y ∈ ns, m ≤ y
structure IsMax (ns : List Int) (m : Int) : Prop where
  mem : m ∈ ns
  le : ∀ y ∈ ns, y ≤ m
theorem IsMin.eq {ns : List Int} {a b : Int} (h : IsMin ns a) (g : IsMin ns b) : a = b := by
  have := h.le b g.mem
  have := g.le a h.mem
  omega
theorem IsMax.eq {ns : List Int} {a b : Int} (h : IsMax ns a) (g : IsMax ns b) : a = b := by
  have := h.le b g.mem
  have := g.le a h.mem
  omega
theorem placesL_bd {m : Int} {fs : List Int} (h2 : m ≤ 200) : ∀ y ∈ placesL m fs, -200 ≤ y ∧ y ≤ 200 := fun y hy => by
  unfold placesL at hy
  obtain ⟨i, hi, rfl⟩ := List.mem_map.mp hy
  have := List.mem_range.mp hi
  have := posF_le fs i
  omega
abbrev s_walked : Stmt := topS 20
theorem sc_walked : FnScope ["steps", "folds", "creases", "place", "way", "laid", "cell"] ["steps", "folds"] (defScope s_walked) := ⟨rfl, rfl, rfl, by decide +kernel, rfl, by decide +kernel, by decide +kernel⟩

section
variable {P : Program} {w : World} {K : PySem.W.Frag} {mg : Str → Option Value} {base : Heap}
/-- the places gone through, a new list -/
def sp_pwalk : Sp := fun vs H Q _ => ∃ (a : Addr) (m : Int) (fs : List Int), vs = [.int m, .ref a] ∧ H a = some (.lst (fs.map V.int)) ∧ 0 ≤ m ∧ m ≤ 1000 ∧ fs.length ≤ 1000 ∧ ∀ q H', H q = none → Same H H' → H' q = some (.lst (((List.range (m.toNat + 1)).map (posF fs)).map V.int)) → Q (.ref q) H'
theorem ok_pwalk {f : Addr} {fd : FuncData} (o : Own K mg "walked" s_walked ["steps", "folds"] f fd) (T : Txt mg) : Cal P w K mg base CX0 1 "walked" s_walked ["steps", "folds"] sp_pwalk := by
  refine ⟨f, fd, o, ?_⟩
  refine Dok.calm o.F sc_walked (fun vs H Q E h => ?_) (fun cdv A outer s H vs Q E hr h => ?_)
  · obtain ⟨a, m, fs, rfl, _⟩ := h
    rfl
  obtain ⟨a, m, fs, rfl, ea, m1, m2, hl, k⟩ := h
  refine ⟨_, (pss_cons (ps_set (i := 2) sc_walked.nd rfl (Or.inl rfl) (pe_callTy (kc_setI (K := K) rfl rfl) (by rfl) T.set (by decide +kernel) (pa_cons (pv 1) pa_nil)))
    (pss_cons (ps_set (i := 3) sc_walked.nd rfl (Or.inl rfl) pe_int)
    (pss_cons (ps_set (i := 4) sc_walked.nd rfl (Or.inl rfl) pe_int)
    (pss_cons (ps_set (i := 5) sc_walked.nd rfl (Or.inl rfl) (pe_lst (pa_cons (pv 3) pa_nil)))
    (pss_cons (ps_for PassesOwn.never rfl (pi_range1 rfl T.range (pa_cons (pv 0) pa_nil)) (pg_name (i := 6) sc_walked.nd rfl (Or.inl rfl)) (pss_cons (ps_if (pt_cmpR op_inI (pv 6) (pv 2) rfl) (pss_one (ps_set (i := 4) sc_walked.nd rfl (Or.inl rfl) (pe_un un_neg (pv 4)))) (pss_one (ps_aug (i := 3) sc_walked.nd rfl (Or.inl rfl) (pv 4) ip_add)))
    (pss_one (ps_expr (pe_bm PySem.F.plainAttrs_list PySem.F.slot_list_append PySem.F.type_list_append mt_append (pv 5) (pa_cons (pv 3) pa_nil))))))
    (pss_one (ps_ret (pv 5)))))))), ?_⟩
  refine ⟨.ref a, rfl, a, fs, rfl, SqL.of ea, by omega, fun p S n np hS => ?_⟩
  have s1 := same_new (o := .set S n) np
  refine ⟨.int 0, rfl, (by show 1 ≤ sizeLine; decide), fun l nl => ?_⟩
  have s2 := same_new (o := .lst [.int 0]) nl
  refine ⟨.int m, rfl, _, rfl, by omega, by omega, ?_⟩
  refine for_it walk_range (fun i σ H' => ∃ v6 : Option V, σ = [some (.int m), some (.ref a), some (.ref p), some (.int (posF fs i)), some (.int (stF fs i).2), some (.ref l), v6] ∧ Same (upd H p (.set S n)) H' ∧ H' l = some (.lst (((List.range (i + 1)).map (posF fs)).map V.int))) ⟨none, rfl, s2, upd_same⟩ (fun _ _ _ _ _ => True.intro) ?_ ?_
  · rintro i x σ H1 H1' hi ⟨v6, rfl, s3, el⟩ ⟨rfl, rfl⟩
    have hi' : i < m.toNat := hi
    have e0 : (0 : Int) + (i : Int) = (i : Int) := Int.zero_add _
    have app : ∀ z : Int, z = posF fs (i + 1) → Same (upd H p (.set S n)) (upd H1' l (.lst (((List.range (i + 1)).map (posF fs)).map V.int ++ [.int z]))) ∧ upd H1' l (.lst (((List.range (i + 1)).map (posF fs)).map V.int ++ [.int z])) l = some (.lst (((List.range (i + 1 + 1)).map (posF fs)).map V.int)) := by
      rintro z rfl
      refine ⟨same_mut s3 nl, ?_⟩
      rw [upd_same, List.range_succ (n := i + 1), List.map_append, List.map_append]
      rfl
    have ln : (((List.range (i + 1)).map (posF fs)).map V.int).length < sizeLine := by
      rw [List.length_map, List.length_map, List.length_range]
      exact long_ok (by omega)
    refine ⟨.int (0 + i), rfl, .ref p, rfl, 0 + i, p, S, n, rfl, rfl, s3 _ _ upd_same, S (0 + i), rfl, ?_⟩
    rw [hS, e0]
    by_cases c : (i : Int) ∈ fs
    · rw [decide_eq_true c]
      refine iteT ?_
      have e1 : posF fs (i + 1) = posF fs i := by
        unfold posF
        rw [stF, if_pos c]
      have e2 : (stF fs (i + 1)).2 = -(stF fs i).2 := by rw [stF, if_pos c]
      refine ⟨.int (stF fs i).2, rfl, _, rfl, ?_⟩
      refine ⟨.ref l, rfl, .inl ⟨rfl, _, SqL.of el⟩, .int (posF fs i), rfl, l, _, _, rfl, rfl, el, ln, ?_⟩
      obtain ⟨x1, x2⟩ := app (posF fs i) e1.symm
      exact ⟨_, by rw [e1, e2]; rfl, x1, x2⟩
    · rw [decide_eq_false c]
      refine iteF ?_
      have e1 : posF fs (i + 1) = posF fs i + (stF fs i).2 := by
        unfold posF
        rw [stF, if_neg c]
      have e2 : (stF fs (i + 1)).2 = (stF fs i).2 := by rw [stF, if_neg c]
      refine ⟨.int (posF fs i), rfl, .int (stF fs i).2, rfl, posF fs i, (stF fs i).2, rfl, rfl, ?_⟩
      refine ⟨.ref l, rfl, .inl ⟨rfl, _, SqL.of el⟩, .int (posF fs i + (stF fs i).2), rfl, l, _, _, rfl, rfl, el, ln, ?_⟩
      obtain ⟨x1, x2⟩ := app (posF fs i + (stF fs i).2) e1.symm
      exact ⟨_, by rw [e1, e2]; rfl, x1, x2⟩
  · rintro σ H1 ⟨v6, rfl, s3, el⟩
    exact ⟨.ref l, rfl, k l H1 (s1.free nl) (s1.trans s3) el⟩
end
/-- where a class of the text lies -/
def adr (K : PySem.W.Frag) (x : Str) : Addr := match PySem.W.nsIn K mainGlobals x with
  | some (some (.ref a)) => a
  | _ => 0
/-- what the written part says of the classes -/
structure Exs (K : PySem.W.Frag) (mg : Str → Option Value) : Prop where
  g_NoFolds : mg "NoFolds" = some (.ref (adr K "NoFolds"))
  g_NoText : mg "NoText" = some (.ref (adr K "NoText"))
  g_NoWish : mg "NoWish" = some (.ref (adr K "NoWish"))
  g_NoPlace : mg "NoPlace" = some (.ref (adr K "NoPlace"))
  g_NoCell : mg "NoCell" = some (.ref (adr K "NoCell"))
  g_Whole : mg "Whole" = some (.ref (adr K "Whole"))
  g_NoMark : mg "NoMark" = some (.ref (adr K "NoMark"))
  g_NoList : mg "NoList" = some (.ref (adr K "NoList"))
  g_Torn : mg "Torn" = some (.ref (adr K "Torn"))
  g_NoPlan : mg "NoPlan" = some (.ref (adr K "NoPlan"))
  g_TooMany : mg "TooMany" = some (.ref (adr K "TooMany"))
  exc : PySem.W.excIn K (adr K "NoFolds") [.type "ValueError", .type "Exception", .type "BaseException", .type "object"] "ValueError.__new__" = true
  keep : PySem.W.keepIn K (.ref (adr K "NoFolds")) = true
  sub : PySem.W.subIn K (.ref (adr K "NoFolds")) (.type "BaseException") = some true
  typ : PySem.W.typeIn K (.ref (adr K "NoFolds")) = some (.type "type")
  isx : ExcC K (adr K "NoFolds")
  any : PySem.W.exmAny K (.ref (adr K "NoFolds")) [.ref (adr K "NoFolds"), .ref (adr K "NoText"), .ref (adr K "NoWish"), .ref (adr K "NoPlace"), .ref (adr K "NoCell"), .ref (adr K "Whole"), .ref (adr K "NoMark"), .ref (adr K "NoList"), .ref (adr K "Torn"), .ref (adr K "NoPlan"), .ref (adr K "TooMany")] = some true
  k_val : PySem.W.kitOne K (.ref (adr K "NoFolds")) (.type "ValueError") = some true
  others : PySem.W.kitAny K (.ref (adr K "NoFolds")) [.ref (adr K "NoText"), .ref (adr K "NoWish"), .ref (adr K "NoPlace"), .ref (adr K "NoCell"), .ref (adr K "Whole"), .ref (adr K "NoMark"), .ref (adr K "NoList"), .ref (adr K "Torn"), .ref (adr K "NoPlan"), .ref (adr K "TooMany")] = some false

section
variable {P : Program} {w : World} {K : PySem.W.Frag} {mg : Str → Option Value} {base : Heap}
/-- the places, a new list -/
def sp_places (C : Addr) : Sp := fun vs H Q E => ∃ (a : Addr) (m : Int) (fs : List Int), vs = [.int m, .ref a] ∧ H a = some (.lst (fs.map V.int)) ∧ (isF m fs = false → E (.ref C) none H) ∧ (isF m fs = true → ∀ q H', H q = none → Same H H' → H' q = some (.lst ((placesL m fs).map V.int)) → Q (.ref q) H')
theorem ok_places {f : Addr} {fd : FuncData} (o : Own K mg "places" s_places ["many", "folds"] f fd) (T : Txt mg) (Ex : Exs K mg) (C_is_folding : Cal P w K mg base CX0 2 "is_folding" s_is_folding ["many", "folds"] sp_is_folding) (C_walked : Cal P w K mg base CX0 1 "walked" s_walked ["steps", "folds"] sp_pwalk) : Cal P w K mg base (L2.CX P w) 3 "places" s_places ["many", "folds"] (sp_places (adr K "NoFolds")) := by
  refine ⟨f, fd, o, ?_⟩
  refine Dok.body o.F sc_places (fun vs H Q E h => ?_) (fun cdv A outer s H vs Q E hr h => ?_)
  · obtain ⟨a, m, fs, rfl, _⟩ := h
    rfl
  obtain ⟨a, m, fs, rfl, ea, kx, k⟩ := h
  refine ⟨_, (pss_cons (ps_if (pt_not (pt_val (c_call C_is_folding (hr.mono (by omega)) pass0 (pa_cons (pv 0) (pa_cons (pv 1) pa_nil))))) (pss_one (ps_raise rfl (takes_of rfl rfl rfl rfl) (pmk_own PySem.F.excBase_ValueError Ex.exc Ex.g_NoFolds Ex.keep (raises_own Ex.sub Ex.typ) rfl))) pss_nil)
    (PSs.nox (pss_one (ps_ret (c_call C_walked (hr.mono (by omega)) pass0 (pa_cons (pe_op op_sub (pv 0) pe_int) (pa_cons (pv 1) pa_nil))))))), ?_⟩
  cases hF : isF m fs with
  | false => exact ⟨.int m, rfl, .ref a, rfl, a, m, fs, rfl, ea, ⟨false, by rw [hF], iteT (kx hF)⟩⟩
  | true =>
  replace k := k hF
  obtain ⟨m1, m2, hl⟩ := isF_len hF
  refine ⟨.int m, rfl, .ref a, rfl, a, m, fs, rfl, ea, ⟨true, by rw [hF], iteF ?_⟩⟩
  refine ⟨.int m, rfl, m, 1, rfl, rfl, .ref a, rfl, a, m - 1, fs, rfl, ea, by omega, by omega, by omega, fun q H' nq s e => k q H' nq s ?_⟩
  rw [e, show (m - 1).toNat + 1 = m.toNat by omega]
  rfl
/-- the cells at a place, a new list -/
def sp_cells_at (C : Addr) : Sp := fun vs H Q E => ∃ (a : Addr) (m pl : Int) (fs : List Int), vs = [.int m, .ref a, .int pl] ∧ H a = some (.lst (fs.map V.int)) ∧ (isF m fs = false → E (.ref C) none H) ∧ (isF m fs = true → ∀ q H', H q = none → Same H H' → H' q = some (.lst ((cellsL fs pl m.toNat).map V.int)) → Q (.ref q) H')
theorem ok_cells_at {f : Addr} {fd : FuncData} (o : Own K mg "cells_at" s_cells_at ["many", "folds", "place"] f fd) (T : Txt mg) (Ex : Exs K mg) (C_places : Cal P w K mg base (L2.CX P w) 3 "places" s_places ["many", "folds"] (sp_places (adr K "NoFolds"))) : Cal P w K mg base (L2.CX P w) 4 "cells_at" s_cells_at ["many", "folds", "place"] (sp_cells_at (adr K "NoFolds")) := by
  refine ⟨f, fd, o, ?_⟩
  refine Dok.body o.F sc_cells_at (fun vs H Q E h => ?_) (fun cdv A outer s H vs Q E hr h => ?_)
  · obtain ⟨a, m, pl, fs, rfl, _⟩ := h
    rfl
  obtain ⟨a, m, pl, fs, rfl, ea, kx, k⟩ := h
  refine ⟨_, (pss_one (ps_ret (pe_lc (own := [("cell", 3), ("at", 4)]) (g := (gTup K 2 (gCons (gName 3) (gCons (gName 4) gNil)))) (by rfl) sc_cells_at.nd (pi_enum (by rfl) T.enumerate (pa_cons (c_call C_places (hr.mono (by omega)) (passT (takes_of rfl rfl rfl rfl)) (pa_cons (pv 0) (pa_cons (pv 1) pa_nil))) pa_nil)) (blkOk_by (own := [("cell", 3), ("at", 4)]) (N := ["many", "folds", "place", "cell", "at"]) (sc := defScope s_cells_at) (by decide +kernel)) (fun _ _ _ _ _ => (pg_tup rfl (pgs_cons (pg_name (i := 3) sc_cells_at.nd rfl (Or.inl rfl)) (pgs_cons (pg_name (i := 4) sc_cells_at.nd rfl (Or.inl rfl)) pgs_nil)))) (fun _ _ _ _ _ => (pts_one (pt_cmpR op_eq (pv 4) (pv 2) (nomark _)))) (fun _ _ _ _ _ => (pv 3))))), ?_⟩
  refine ⟨.int m, rfl, .ref a, rfl, a, m, fs, rfl, ea, kx, fun hF l H1 nl s1 el => ?_⟩
  replace k := k hF
  obtain ⟨m1, m2, hl⟩ := isF_len hF
  refine ⟨l, _, rfl, SqL.of el, fun D hD => ?_⟩
  have lp : ((placesL m fs).map V.int).length = m.toNat := by rw [List.length_map, placesL_len]
  refine lc_it (walk_enum (xs := (placesL m fs).map V.int)) (fun i H' => Same H1 H' ∧ H' D = some (.lst ((cellsL fs pl i).map V.int))) ⟨same_new hD, upd_same⟩ (fun i H' _ e => SqL.of (e.1 _ _ el)) ?_ ?_
  · rintro i x H2 H2' hi ⟨s2, eD⟩ ⟨t, y1, y2, rfl, nt, rfl, e1, e2⟩
    rw [lp] at hi
    cases (Option.some.inj e1 : V.int (i : Nat) = y1)
    have ey : y2 = .int (posF fs i) := by
      have q : ((placesL m fs).map V.int)[i]? = some (.int (posF fs i)) := by
        unfold placesL
        rw [List.getElem?_map, List.getElem?_map, List.getElem?_range hi]
        rfl
      exact Option.some.inj (e2.symm.trans q)
    subst ey
    have s3 := same_new (o := .tup [.int (i : Nat), .int (posF fs i)]) nt
    refine ⟨t, _, rfl, SqT.of upd_same, rfl, _, _, rfl, _, [], rfl, rfl, rfl, ?_⟩
    refine ⟨_, rfl, .int pl, rfl, rfl, _, rfl, ?_⟩
    by_cases c : posF fs i = pl
    · rw [decide_eq_true (congrArg V.int c)]
      refine iteT ?_
      refine ⟨_, rfl, _, s3 _ _ eD, ?_, same_mut (s2.trans s3) hD, ?_⟩
      · rw [List.length_map]
        exact long_ok (Nat.le_trans (cellsL_len _ _ _) (by omega))
      · rw [upd_same, cellsL_succ, if_pos c, List.map_append]
        rfl
    · rw [decide_eq_false (fun z => c (V.int.inj z))]
      refine iteF ⟨s2.trans s3, ?_⟩
      rw [s3 _ _ eD, cellsL_succ, if_neg c, List.append_nil]
  · rintro H2 ⟨s2, eD⟩
    rw [lp] at eD
    exact k D H2 (s1.free hD) (s1.trans s2) eD
/-- the stacks, new lists -/
def sp_stacks (C : Addr) : Sp := fun vs H Q E => ∃ (a : Addr) (m : Int) (fs : List Int), vs = [.int m, .ref a] ∧ H a = some (.lst (fs.map V.int)) ∧ (isF m fs = false → E (.ref C) none H) ∧ (isF m fs = true →
  ∀ q H' rs mn mx, H q = none → Same H H' → IsMin (placesL m fs) mn → IsMax (placesL m fs) mx → rs.length = (mx + 1 - mn).toNat → H' q = some (.lst (rs.map V.ref)) → PilesAt H q H' rs (fun j => cellsL fs (mn + j) m.toNat) → Q (.ref q) H')
theorem ok_stacks {f : Addr} {fd : FuncData} (o : Own K mg "stacks" s_stacks ["many", "folds"] f fd) (T : Txt mg) (Ex : Exs K mg) (C_places : Cal P w K mg base (L2.CX P w) 3 "places" s_places ["many", "folds"] (sp_places (adr K "NoFolds"))) : Cal P w K mg base (L2.CX P w) 4 "stacks" s_stacks ["many", "folds"] (sp_stacks (adr K "NoFolds")) := by
  refine ⟨f, fd, o, ?_⟩
  refine Dok.body o.F sc_stacks (fun vs H Q E h => ?_) (fun cdv A outer s H vs Q E hr h => ?_)
  · obtain ⟨a, m, fs, rfl, _⟩ := h
    rfl
  obtain ⟨a, m, fs, rfl, ea, kx, k⟩ := h
  have lp : (placesL m fs).length = m.toNat := placesL_len
  refine ⟨_, (pss_cons (ps_set (i := 2) sc_stacks.nd rfl (Or.inl rfl) (c_call C_places (hr.mono (by omega)) (passT (takes_of rfl rfl rfl rfl)) (pa_cons (pv 0) (pa_cons (pv 1) pa_nil))))
    (PSs.nox (pss_cons (ps_set (i := 3) sc_stacks.nd rfl (Or.inl rfl) (pe_callB (kc_min (K := K) rfl rfl) (by rfl) T.min (by decide +kernel) (pa_cons (pv 2) pa_nil)))
    (pss_cons (ps_setLc (i := 5) (own := [("_", 4)]) (g := (gName 4)) (by rfl) sc_stacks.nd rfl rfl (sw_true rfl rfl rfl (by decide +kernel)) (pi_range2 rfl T.range (pa_cons (pv 3) (pa_cons (pe_op op_add (pe_callB (kc_max (K := K) rfl rfl) (by rfl) T.max (by decide +kernel) (pa_cons (pv 2) pa_nil)) pe_int) pa_nil))) (blkOk_by (own := [("_", 4)]) (N := ["many", "folds", "laid", "least", "_", "piles", "cell", "place"]) (sc := defScope s_stacks) (by decide +kernel)) (fun _ _ _ _ _ => (pg_name (i := 4) sc_stacks.nd rfl (Or.inl rfl))) (fun _ _ _ _ _ => pts_nil) (fun _ _ _ _ _ => (pe_lst pa_nil)))
    (pss_cons (ps_for PassesOwn.never rfl (pi_enum (by rfl) T.enumerate (pa_cons (pv 2) pa_nil)) (pg_tup rfl (pgs_cons (pg_name (i := 6) sc_stacks.nd rfl (Or.inl rfl)) (pgs_cons (pg_name (i := 7) sc_stacks.nd rfl (Or.inl rfl)) pgs_nil))) (pss_one (ps_expr (pe_bm PySem.F.plainAttrs_list PySem.F.slot_list_append PySem.F.type_list_append mt_append (pe_ix (k_ixL (K := K) rfl) (pv 5) (pe_op op_sub (pv 7) (pv 3)) (fun _ _ => rfl)) (pa_cons (pv 6) pa_nil)))))
    (pss_one (ps_ret (pv 5)))))))), ?_⟩
  refine ⟨.int m, rfl, .ref a, rfl, a, m, fs, rfl, ea, kx, fun hF l H1 nl s1 el => ?_⟩
  replace k := k hF
  obtain ⟨m1, m2, hl⟩ := isF_len hF
  refine ⟨.ref l, rfl, l, _, rfl, SqL.of el, by omega, fun mn hmn1 hmn2 => ?_⟩
  have hmn : IsMin (placesL m fs) mn := ⟨hmn1, hmn2⟩
  have bmn := placesL_bd m2 mn hmn1
  refine ⟨.int mn, rfl, .ref l, rfl, l, _, rfl, SqL.of el, by omega, fun mx hmx1 hmx2 => ⟨mx, 1, rfl, rfl, ?_⟩⟩
  have hmx : IsMax (placesL m fs) mx := ⟨hmx1, hmx2⟩
  have bmx := placesL_bd m2 mx hmx1
  have hle : mn ≤ mx := hmn.le mx hmx.mem
  refine ⟨mn, mx + 1, rfl, ⟨by omega, by omega, by omega, by omega⟩, fun D hD => ?_⟩
  refine lc_it walk_range (fun i H' => Same H1 H' ∧ ∃ rs : List Addr, rs.length = i ∧ H' D = some (.lst (rs.map V.ref)) ∧ PilesAt H1 D H' rs (fun _ => [])) ⟨same_new hD, [], rfl, upd_same, List.nodup_nil, fun j r e => by simp at e⟩ (fun _ _ _ _ => True.intro) ?_ ?_
  · rintro i x H2 H2' hi ⟨s2, rs, lr, eD, nd, pr⟩ ⟨rfl, rfl⟩
    have hi' : i < (mx + 1 - mn).toNat := hi
    refine ⟨rfl, tyes (iteT ?_)⟩
    refine ⟨Nat.zero_le _, fun r nr => ?_⟩
    have s3 := same_new (o := .lst []) nr
    have rD : D ≠ r := ne_of_none eD nr
    refine ⟨rs.map V.ref, s3 _ _ eD, by rw [List.length_map]; exact long_ok (by omega), same_mut (s2.trans s3) hD, rs ++ [r], by simp [lr], by rw [upd_same, List.map_append]; rfl, ?_, fun j r' e => ?_⟩
    · refine List.nodup_append.mpr ⟨nd, by simp, ?_⟩
      intro y hy z hz
      simp only [List.mem_singleton] at hz
      subst hz
      obtain ⟨j, hj⟩ := List.mem_iff_getElem?.mp hy
      exact ne_of_none (pr j y hj).2.2 nr
    · by_cases hj : j < rs.length
      · rw [List.getElem?_append_left hj] at e
        obtain ⟨a1, a2, a3⟩ := pr j r' e
        exact ⟨a1, a2, by rw [upd_ne a2]; exact s3 _ _ a3⟩
      · have ej : j = rs.length := by
          have := (List.getElem?_eq_some_iff.mp e).1
          simp at this
          omega
        subst ej
        rw [List.getElem?_append_right (Nat.le_refl _), Nat.sub_self] at e
        cases (Option.some.inj e : r = r')
        exact ⟨s2.free nr, rD.symm, by rw [upd_ne rD.symm]; exact upd_same⟩
  · rintro H2 ⟨s2, rs, lr, eD, pr⟩
    refine ⟨.ref l, rfl, l, _, rfl, SqL.of (s2 _ _ el), ?_⟩
    have lq : ((placesL m fs).map V.int).length = m.toNat := by rw [List.length_map, lp]
    refine for_it (walk_enum (xs := (placesL m fs).map V.int)) (fun i σ H' => ∃ v4 v6 v7 : Option V, σ = [some (.int m), some (.ref a), some (.ref l), some (.int mn), v4, some (.ref D), v6, v7] ∧ Same H1 H' ∧ H' D = some (.lst (rs.map V.ref)) ∧ PilesAt H1 D H' rs (fun j => cellsL fs (mn + j) i)) ⟨none, none, none, rfl, s2, eD, pr⟩ (fun i σ H' _ ⟨_, _, _, _, e, _⟩ => SqL.of (e _ _ el)) ?_ ?_
    · rintro i x σ H3 H3' hi ⟨v4, v6, v7, rfl, s3, eD3, nd, pr3⟩ ⟨t, y1, y2, rfl, nt, rfl, e1, e2⟩
      rw [lq] at hi
      cases (Option.some.inj e1 : V.int (i : Nat) = y1)
      have hp : posF fs i ∈ placesL m fs := List.mem_map.mpr ⟨i, List.mem_range.mpr hi, rfl⟩
      have ey : y2 = .int (posF fs i) := by
        have q : ((placesL m fs).map V.int)[i]? = some (.int (posF fs i)) := by
          unfold placesL
          rw [List.getElem?_map, List.getElem?_map, List.getElem?_range hi]
          rfl
        exact Option.some.inj (e2.symm.trans q)
      subst ey
      have b1 := hmn.le _ hp
      have b2 := hmx.le _ hp
      obtain ⟨j0, ej0⟩ := Int.eq_ofNat_of_zero_le (show 0 ≤ posF fs i - mn by omega)
      have hj0 : j0 < rs.length := by omega
      obtain ⟨a1, a2, a3⟩ := pr3 j0 rs[j0] (List.getElem?_eq_getElem hj0)
      have s4 := same_new (o := .tup [.int (i : Nat), .int (posF fs i)]) nt
      refine ⟨t, _, rfl, SqT.of upd_same, rfl, _, _, rfl, _, [], rfl, rfl, ?_⟩
      have eA : atI (rs.map V.ref) (posF fs i - mn) = some (.ref rs[j0]) := by
        rw [ej0]
        exact atI_nat (by rw [List.getElem?_map, List.getElem?_eq_getElem hj0]; rfl)
      refine ⟨.ref D, rfl, .int (posF fs i), rfl, .int mn, rfl, _, _, rfl, rfl, D, _, _, _, rfl, rfl, SqL.of (s4 _ _ eD3), eA, .inl ⟨rfl, _, SqL.of (s4 _ _ a3)⟩, _, rfl, rs[j0], _, _, rfl, rfl, s4 _ _ a3, ?_, ?_⟩
      · rw [List.length_map]
        exact long_ok (Nat.le_trans (cellsL_len _ _ _) (by omega))
      refine ⟨_, _, _, rfl, same_mut (s3.trans s4) a1, by rw [upd_ne a2.symm]; exact s4 _ _ eD3, nd, fun j r e => ?_⟩
      obtain ⟨c1, c2, c3⟩ := pr3 j r e
      refine ⟨c1, c2, ?_⟩
      show upd _ rs[j0] (.lst ((cellsL fs (mn + (j0 : Int)) i).map V.int ++ [.int (i : Nat)])) r = some (.lst ((cellsL fs (mn + (j : Int)) (i + 1)).map V.int))
      rw [cellsL_succ]
      by_cases hj : j = j0
      · subst hj
        have er : r = rs[j] := Option.some.inj (e.symm.trans (List.getElem?_eq_getElem hj0))
        subst er
        rw [upd_same, if_pos (by omega), List.map_append]
        rfl
      · have ner : r ≠ rs[j0] := fun z => hj (nd_ix nd e (z ▸ List.getElem?_eq_getElem hj0))
        rw [upd_ne ner, if_neg (by omega), List.append_nil]
        exact s4 _ _ c3
    · rintro σ H3 ⟨v4, v6, v7, rfl, s3, eD3, nd, pr3⟩
      rw [lq] at pr3
      refine ⟨.ref D, rfl, k D H3 rs mn mx (s1.free hD) (s1.trans s3) hmn hmx lr eD3 ⟨nd, fun j r e => ?_⟩⟩
      obtain ⟨a1, a2, a3⟩ := pr3 j r e
      exact ⟨s1.free a1, a2, a3⟩
end
abbrev s_law_spool : Stmt := topS 22
theorem sc_law_spool : FnScope ["script", "k", "cell"] ["script", "k"] (defScope s_law_spool) := ⟨rfl, rfl, rfl, by decide +kernel, rfl, by decide +kernel, by decide +kernel⟩

abbrev s_law_reel : Stmt := topS 23
theorem sc_law_reel : FnScope ["spool", "size", "found", "mixed"] ["spool", "size"] (defScope s_law_reel) := ⟨rfl, rfl, rfl, by decide +kernel, rfl, by decide +kernel, by decide +kernel⟩

abbrev s_law_size : Stmt := topS 24
theorem sc_law_size : FnScope ["spool"] ["spool"] (defScope s_law_size) := ⟨rfl, rfl, rfl, by decide +kernel, rfl, by decide +kernel, by decide +kernel⟩

abbrev s_law_folds : Stmt := topS 25
theorem sc_law_folds : FnScope ["spool", "size", "often", "wide", "crease"] ["spool", "size"] (defScope s_law_folds) := ⟨rfl, rfl, rfl, by decide +kernel, rfl, by decide +kernel, by decide +kernel⟩

section
variable {P : Program} {w : World} {K : PySem.W.Frag} {mg : Str → Option Value} {base : Heap}
def sp_pull0 : Sp := fun vs H Q _ => ∃ (p : Addr) (x y z c : Int) (n : Nat), vs = [.ref p, .int c] ∧ H p = some (reelL x y z) ∧ RB (n + 1) x y z ∧ 0 < c ∧ c < 2 ^ 29 ∧
  ∀ x' z' r, RB n x' y z' → 0 ≤ r → r < c → Q (.int r) (upd H p (reelL x' y z'))
/-- a draw: 0 <= r < c -/
def sp_pull : Sp := fun vs H Q _ => ∃ (p : Addr) (c : Int) (n : Nat), vs = [.ref p, .int c] ∧ H p = some (rl n p) ∧ 1 ≤ n ∧ 0 < c ∧ c < 2 ^ 29 ∧
  ∀ r H', Sr p n (n - 1) H H' → 0 ≤ r → r < c → Q (.int r) H'
def st1 (y z : Int) : Int := ((y + 4256233 * (z + 1)) ^ Int.toNat 3).fmod (10 ^ 37 + 9)
def st2 (u z : Int) : Int := ((u + 15487469 * (z + 1)) ^ Int.toNat 5).fmod (10 ^ 39 + 3)
theorem fmod_lt {a c : Int} (hc : 0 < c) : 0 ≤ a.fmod c ∧ a.fmod c < c := by
  rw [Int.fmod_eq_emod_of_nonneg a (by omega)]
  exact ⟨Int.emod_nonneg a (by omega), Int.emod_lt_of_pos a hc⟩
theorem fdiv_bd {a c : Int} (ha : 0 ≤ a) (hc : 0 < c) : 0 ≤ a.fdiv c := by
  rw [Int.fdiv_eq_ediv_of_nonneg a (by omega)]
  exact Int.ediv_nonneg ha (by omega)
theorem bits_lt {i : Int} {m : Nat} (h : i.natAbs < 2 ^ m) (hm : 0 < m) : Builtin.Int.intBits i ≤ m := by
  unfold Builtin.Int.intBits
  split
  · omega
  · have := PySem.Flt.log2_lt_of hm h
    omega
theorem powk {i k : Int} {m : Nat} (h : i.natAbs < 2 ^ m) (hm : 0 < m) (h2 : m ≤ 1000000) (k0 : 0 ≤ k) (k5 : k ≤ 5) : (0 : Int) ≤ k ∧ (Builtin.Int.intBits i : Int) * k ≤ 2 ^ 27 := by
  have b := bits_lt h hm
  refine ⟨k0, ?_⟩
  have e : (2 : Int) ^ 27 = 134217728 := by decide
  have c : (Builtin.Int.intBits i : Int) * k ≤ (Builtin.Int.intBits i : Int) * 5 := Int.mul_le_mul_of_nonneg_left k5 (by omega)
  omega
theorem at_mem {xs : List V} {r : Int} (h0 : 0 ≤ r) (h1 : r < (xs.length : Int)) : ∃ v, atI xs r = some v ∧ v ∈ xs := by
  obtain ⟨j, rfl⟩ := Int.eq_ofNat_of_zero_le h0
  have hj : j < xs.length := by omega
  exact ⟨xs[j], atI_nat (List.getElem?_eq_getElem hj), List.getElem_mem hj⟩
theorem ok_pull0 {f : Addr} {fd : FuncData} (F : Fun K "_law_reel" "_law_reel" s_law_reel f fd) : Dok P w K mg base CX0 1 f fd ["spool", "size"] sp_pull0 := by
  refine Dok.calm F sc_law_reel (fun vs H Q E h => ?_) (fun cdv A outer s H vs Q E hr h => ?_)
  · obtain ⟨p, x, y, z, c, n, rfl, _⟩ := h
    rfl
  obtain ⟨p, x, y, z, c, n, rfl, hp, ⟨bx, by0, by1, bz, bn⟩, c0, c1, k⟩ := h
  refine ⟨_, (pss_cons (ps_if (pt_cmpR op_gt (pe_ix (k_ixL (K := K) rfl) (pv 0) pe_int (fun _ _ => rfl)) pe_int (nomark _)) (pss_cons (ps_set (i := 2) sc_law_reel.nd rfl (Or.inl rfl) (pe_op op_modN (pe_ix (k_ixL (K := K) rfl) (pv 0) pe_int (fun _ _ => rfl)) (pv 1)))
    (pss_cons (ps_asg (pe_op op_fdivN (pe_ix (k_ixL (K := K) rfl) (pv 0) pe_int (fun _ _ => rfl)) (pv 1)) (pg_sub (pv 0) pe_int set_list))
    (pss_one (ps_ret (pv 2))))) pss_nil)
    (pss_cons (ps_asg (pe_op op_add (pe_ix (k_ixL (K := K) rfl) (pv 0) pe_int (fun _ _ => rfl)) pe_int) (pg_sub (pv 0) pe_int set_list))
    (pss_cons (ps_set (i := 3) sc_law_reel.nd rfl (Or.inl rfl) (pe_op op_modN (pe_op op_powW (pe_op op_add (pe_ix (k_ixL (K := K) rfl) (pv 0) pe_int (fun _ _ => rfl)) (pe_op op_mul pe_int (pe_ix (k_ixL (K := K) rfl) (pv 0) pe_int (fun _ _ => rfl)))) pe_int) (pe_op op_add (pe_op op_pow pe_int pe_int) pe_int)))
    (pss_cons (ps_set (i := 3) sc_law_reel.nd rfl (Or.inl rfl) (pe_op op_modN (pe_op op_powW (pe_op op_add (pv 3) (pe_op op_mul pe_int (pe_ix (k_ixL (K := K) rfl) (pv 0) pe_int (fun _ _ => rfl)))) pe_int) (pe_op op_add (pe_op op_pow pe_int pe_int) pe_int)))
    (pss_one (ps_ret (pe_op op_modN (pe_op op_fdivN (pv 3) pe_int) (pv 1)))))))), ?_⟩
  have hS : ∀ {H : Hp} {x y z : Int}, H p = some (reelL x y z) → SqL K H p [.int x, .int y, .int z] := fun h => SqL.of h
  refine ⟨.ref p, rfl, p, _, 0, .int x, rfl, rfl, hS hp, rfl, x, 0, rfl, rfl, _, rfl, ite2 (fun h0 => ?_) (fun _ => ?_)⟩
  · have cd : c ≠ 0 ∧ c.natAbs < 1073741824 := by
      have : (2 : Int) ^ 29 = 536870912 := by decide
      omega
    refine ⟨.ref p, rfl, p, _, 0, .int x, rfl, rfl, hS hp, rfl, .int c, rfl, x, c, rfl, rfl, cd.1, ?_⟩
    refine ⟨.ref p, rfl, p, _, 0, .int x, rfl, rfl, hS hp, rfl, .int c, rfl, x, c, rfl, rfl, cd, .ref p, rfl, p, _, 0, 0, rfl, rfl, hp, rfl, .int (x.fmod c), rfl, ?_⟩
    exact k _ _ _ ⟨fdiv_bd bx c0, by0, by1, bz, by omega⟩ (fmod_lt c0).1 (fmod_lt c0).2
  · refine ⟨.ref p, rfl, p, _, 2, .int z, rfl, rfl, hS hp, rfl, z, 1, rfl, rfl, .ref p, rfl, p, _, 2, 2, rfl, rfl, hp, rfl, ?_⟩
    have hp2 : upd H p (reelL x y (z + 1)) p = some (reelL x y (z + 1)) := upd_same
    have zb : 0 ≤ z + 1 ∧ z + 1 ≤ 1000000000 := by omega
    have e200 : (2 : Int) ^ 200 = 1606938044258990275541962092341162602522202993782792835301376 := by decide
    have e210 : (2 : Nat) ^ 210 = 1645504557321206042154969182557350504982735865633579863348609024 := by decide
    refine ⟨.ref p, rfl, p, _, 1, .int y, rfl, rfl, hS hp2, rfl, .ref p, rfl, p, _, 2, .int (z + 1), rfl, rfl, hS hp2, rfl, 4256233, z + 1, rfl, rfl, .inl ⟨by decide, by decide⟩, y, 4256233 * (z + 1), rfl, rfl,
      y + 4256233 * (z + 1), 3, rfl, rfl, powk (m := 210) (by rw [e210]; omega) (by decide) (by decide) (by decide) (by decide), 10, 37, rfl, rfl, ⟨by decide, by decide, by decide⟩, 10 ^ 37, 9, rfl, rfl, _, 10 ^ 37 + 9, rfl, rfl, (show (10 : Int) ^ 37 + 9 ≠ 0 by decide), ?_⟩
    obtain ⟨u, hu⟩ : ∃ u, u = st1 y z := ⟨_, rfl⟩
    have bu : 0 ≤ u ∧ u < 10 ^ 37 + 9 := by
      rw [hu]
      exact fmod_lt (by decide)
    have e37 : (10 : Int) ^ 37 = 10000000000000000000000000000000000000 := by decide
    refine ⟨.int u, by rw [hu]; rfl, .ref p, rfl, p, _, 2, .int (z + 1), rfl, rfl, hS hp2, rfl, 15487469, z + 1, rfl, rfl, .inl ⟨by decide, by decide⟩, u, 15487469 * (z + 1), rfl, rfl,
      u + 15487469 * (z + 1), 5, rfl, rfl, powk (m := 210) (by rw [e210]; omega) (by decide) (by decide) (by decide) (by decide), 10, 39, rfl, rfl, ⟨by decide, by decide, by decide⟩, 10 ^ 39, 3, rfl, rfl, _, 10 ^ 39 + 3, rfl, rfl, (show (10 : Int) ^ 39 + 3 ≠ 0 by decide), ?_⟩
    refine ⟨.int (st2 u z), rfl, st2 u z, 262147, rfl, rfl, ⟨by decide, by decide⟩, .int c, rfl, (st2 u z).fdiv 262147, c, rfl, rfl, by omega, ?_⟩
    exact k _ _ _ ⟨bx, by0, by1, zb.1, by omega⟩ (fmod_lt c0).1 (fmod_lt c0).2
theorem ok_pull {f : Addr} {fd : FuncData} (o : Own K mg "_law_reel" s_law_reel ["spool", "size"] f fd) : Cal P w K mg base CX0 1 "_law_reel" s_law_reel ["spool", "size"] sp_pull := by
  refine ⟨f, fd, o, Dok.reel (ok_pull0 o.F) (fun vs H Q E h => ?_) (fun vs H Q E h => ?_)⟩
  · obtain ⟨p, c, n, rfl, _⟩ := h
    rfl
  obtain ⟨p, c, n, rfl, hp, n1, c0, c1, k⟩ := h
  obtain ⟨m, rfl⟩ : ∃ m, n = m + 1 := ⟨n - 1, by omega⟩
  refine ⟨p, m + 1, hp, fun x y z b => ⟨p, x, y, z, c, m, rfl, upd_same, b, c0, c1, fun x' z' r b' r0 r1 => ?_⟩⟩
  refine ⟨H, p, x', y, z', m, b', upd_upd, k r _ ⟨hp, upd_same, fun b o d e => ?_⟩ r0 r1⟩
  rw [upd_ne d]
  exact e
def sp_spool0 (K : PySem.W.Frag) : Sp := fun vs H Q _ => ∃ (a : Addr) (ns : List Int) (k : Int), vs = [.ref a, .int k] ∧ SqL K H a (ns.map V.int) ∧ 0 ≤ k ∧ k ≤ 1000 ∧
  ∀ p x y, H p = none → RB 1000000 x y 0 → Q (.ref p) (upd H p (reelL x y 0))
/-- a new spool, good for a million draws -/
def sp_spool (K : PySem.W.Frag) : Sp := fun vs H Q _ => ∃ (a : Addr) (ns : List Int) (k : Int), vs = [.ref a, .int k] ∧ SqL K H a (ns.map V.int) ∧ 0 ≤ k ∧ k ≤ 1000 ∧
  ∀ p H', H p = none → Same H H' → H' p = some (rl 1000000 p) → Q (.ref p) H'
theorem ok_spool {f : Addr} {fd : FuncData} (o : Own K mg "_law_spool" s_law_spool ["script", "k"] f fd) (T : Txt mg) : Cal P w K mg base CX0 1 "_law_spool" s_law_spool ["script", "k"] (sp_spool K) := by
  have z : Dok P w K mg base CX0 1 f fd ["script", "k"] (sp_spool0 K) := by
    refine Dok.calm o.F sc_law_spool (fun vs H Q E h => ?_) (fun cdv A outer s H vs Q E hr h => ?_)
    · obtain ⟨a, ns, k, rfl, _⟩ := h
      rfl
    obtain ⟨a, ns, k, rfl, hS, k0, k1, q⟩ := h
    refine ⟨_, (pss_cons (ps_set (i := 2) sc_law_spool.nd rfl (Or.inl rfl) (pe_ifExp (pt_cmpR op_lt (pv 1) (pe_callB (kc_len (K := K) rfl) (by rfl) T.len (by decide +kernel) (pa_cons (pv 0) pa_nil)) (nomark _)) (pe_callB call_abs (by rfl) T.abs (by decide +kernel) (pa_cons (pe_ix (k_ixL (K := K) rfl) (pv 0) (pv 1) (fun _ _ => rfl)) pa_nil)) pe_int))
    (pss_one (ps_ret (pe_lst (pa_cons (pe_callB (call_max2 rfl) (by rfl) T.max (by decide +kernel) (pa_cons pe_int (pa_cons (pe_op op_sub (pv 2) (pe_op op_pow pe_int pe_int)) pa_nil))) (pa_cons (pe_op op_add (pe_op op_mul (pe_op op_modN (pv 2) (pe_op op_add (pe_op op_pow pe_int pe_int) pe_int)) pe_int) (pv 1)) (pa_cons pe_int pa_nil))))))), ?_⟩
    dsimp only [tSeq, gName]
    have fin : ∀ cell : Int, 0 ≤ cell → ∃ x y, RB 1000000 x y 0 ∧ x = (if cell - 10 ^ 18 > 0 then cell - 10 ^ 18 else 0) ∧ y = cell.fmod (10 ^ 31 + 33) * 32 + k := by
      intro cell hc
      refine ⟨_, _, ⟨?_, ?_⟩, rfl, rfl⟩
      · split <;> omega
      · have b := fmod_lt (a := cell) (c := 10 ^ 31 + 33) (by decide)
        show 0 ≤ cell.fmod (10 ^ 31 + 33) * 32 + k ∧ cell.fmod (10 ^ 31 + 33) * 32 + k < 2 ^ 200 ∧ (0 : Int) ≤ 0 ∧ (0 : Int) + ((1000000 : Nat) : Int) ≤ 1000000000
        have e36 : (10 : Int) ^ 31 = 10000000000000000000000000000000 := by decide
        have e200 : (2 : Int) ^ 200 = 1606938044258990275541962092341162602522202993782792835301376 := by decide
        omega
    refine with_nx (t := tAsg _ _) (fun σ H' => ∃ cell : Int, 0 ≤ cell ∧ H' = H ∧ σ = [some (.ref a), some (.int k), some (.int cell)]) ?_ (fun rest => ?_)
    · rintro σ H' ⟨cell, hc, rfl, rfl⟩
      obtain ⟨x, y, b, rfl, rfl⟩ := fin cell hc
      refine ⟨.int cell, rfl, 10, 18, rfl, rfl, ⟨by decide, by decide, by decide⟩, _, _, rfl, rfl, _, _, rfl, ?_⟩
      refine ⟨.int cell, rfl, 10, 31, rfl, rfl, ⟨by decide, by decide, by decide⟩, _, _, rfl, rfl, _, _, rfl, rfl, (show (10 : Int) ^ 31 + 33 ≠ 0 by decide), _, _, rfl, rfl, .inr ⟨by decide, by decide⟩, .int k, rfl, _, _, rfl, rfl, (by show 3 ≤ sizeLine; decide), fun p hp => ?_⟩
      exact q p _ _ hp b
    · refine ⟨.int k, rfl, .ref a, rfl, a, _, rfl, .inl hS, k, _, rfl, rfl, _, rfl, ite2 (fun c => ?_) (fun c => ?_)⟩
      · have hk : k < ((ns.map V.int).length : Int) := of_decide_eq_true c
        obtain ⟨v, e, m⟩ := at_mem k0 hk
        obtain ⟨cell, _, rfl⟩ := List.mem_map.mp m
        refine ⟨.ref a, rfl, .int k, rfl, a, _, k, .int cell, rfl, rfl, hS, e, cell, rfl, rest _ _ ⟨_, ?_, rfl, rfl⟩⟩
        split <;> omega
      · exact rest _ _ ⟨0, by decide, rfl, rfl⟩
  refine ⟨f, fd, o, Dok.made z (fun vs H Q E h => ?_)⟩
  obtain ⟨a, ns, k, rfl, hS, k0, k1, q⟩ := h
  exact ⟨a, ns, k, rfl, hS, k0, k1, fun p x y hp b => ⟨H, p, x, y, 0, 1000000, b, rfl, q p _ hp (same_new hp) upd_same⟩⟩
/-- a size from 1 to 200 -/
def sp_size : Sp := fun vs H Q _ => ∃ (p : Addr) (n : Nat), vs = [.ref p] ∧ H p = some (rl n p) ∧ 4 ≤ n ∧ ∀ r H', Sr p n (n - 4) H H' → 1 ≤ r → r ≤ 200 → Q (.int r) H'
theorem ok_size {f : Addr} {fd : FuncData} (o : Own K mg "_law_size" s_law_size ["spool"] f fd) (T : Txt mg) (C_law_reel : Cal P w K mg base CX0 1 "_law_reel" s_law_reel ["spool", "size"] sp_pull) :
    Cal P w K mg base CX0 2 "_law_size" s_law_size ["spool"] sp_size := by
  refine ⟨f, fd, o, ?_⟩
  refine Dok.calm o.F sc_law_size (fun vs H Q E h => ?_) (fun cdv A outer s H vs Q E hr h => ?_)
  · obtain ⟨p, n, rfl, _⟩ := h
    rfl
  obtain ⟨p, n, rfl, hp, n4, k⟩ := h
  refine ⟨_, (pss_one (ps_ret (pe_ix (k_ixL (K := K) rfl) (pe_lst (pa_cons (pe_op op_add pe_int (c_call C_law_reel (hr.mono (by omega)) pass0 (pa_cons (pv 0) (pa_cons pe_int pa_nil)))) (pa_cons (pe_op op_add pe_int (c_call C_law_reel (hr.mono (by omega)) pass0 (pa_cons (pv 0) (pa_cons pe_int pa_nil)))) (pa_cons (pe_op op_add pe_int (c_call C_law_reel (hr.mono (by omega)) pass0 (pa_cons (pv 0) (pa_cons pe_int pa_nil)))) (pa_cons pe_int pa_nil))))) (c_call C_law_reel (hr.mono (by omega)) pass0 (pa_cons (pv 0) (pa_cons pe_int pa_nil))) (fun _ _ => rfl)))), ?_⟩
  refine ⟨.ref p, rfl, p, 5, n, rfl, hp, by omega, by decide, by decide, fun r1 H1 s1 a1 b1 => ⟨1, r1, rfl, rfl, ?_⟩⟩
  refine ⟨.ref p, rfl, p, 11, n - 1, rfl, s1.b, by omega, by decide, by decide, fun r2 H2 s2 a2 b2 => ⟨2, r2, rfl, rfl, ?_⟩⟩
  refine ⟨.ref p, rfl, p, 199, n - 1 - 1, rfl, s2.b, by omega, by decide, by decide, fun r3 H3 s3 a3 b3 => ⟨2, r3, rfl, rfl, (by show 4 ≤ sizeLine; decide), fun l hl => ?_⟩⟩
  have s4 := ((s1.trans s2).trans s3).new (o := .lst [.int (1 + r1), .int (2 + r2), .int (2 + r3), .int 200]) hl
  refine ⟨.ref p, rfl, p, 4, n - 1 - 1 - 1, rfl, s4.b, by omega, by decide, by decide, fun r4 H4 s5 a4 b4 => ?_⟩
  obtain ⟨v, ev, mv⟩ := at_mem (xs := [.int (1 + r1), .int (2 + r2), .int (2 + r3), .int 200]) a4 b4
  obtain ⟨i, rfl, i1, i2⟩ : ∃ i, v = .int i ∧ 1 ≤ i ∧ i ≤ 200 := by
    simp only [List.mem_cons, List.not_mem_nil, or_false] at mv
    rcases mv with rfl | rfl | rfl | rfl <;> exact ⟨_, rfl, by omega, by omega⟩
  have e5 : n - 4 = n - 1 - 1 - 1 - 1 := by omega
  exact ⟨l, _, r4, .int i, rfl, rfl, SqL.of (s5.lst upd_same), ev, k i H4 (by rw [e5]; exact s4.trans s5) i1 i2⟩
end
theorem rising_snoc {m k : Int} : ∀ {fs : List Int} {a : Int}, risingB m a fs = true → (∀ c ∈ fs, c < k) → a < k → k < m - 1 → risingB m a (fs ++ [k]) = true
  | [], a, _, _, h1, h2 => by
    show (decide (a < k) && decide (k < m - 1) && true) = true
    rw [decide_eq_true h1, decide_eq_true h2]
    rfl
  | c :: r, a, h, hc, h1, h2 => by
    rw [risingB_cons] at h
    simp only [Bool.and_eq_true, decide_eq_true_eq] at h
    show (decide (a < c) && decide (c < m - 1) && risingB m c (r ++ [k])) = true
    rw [decide_eq_true h.1.1, decide_eq_true h.1.2, rising_snoc h.2 (fun x hx => hc x (List.mem_cons_of_mem _ hx)) (hc c List.mem_cons_self) h2]
    rfl
section
variable {P : Program} {w : World} {K : PySem.W.Frag} {mg : Str → Option Value} {base : Heap}
/-- a drawn folding of m cells, a new list -/
def sp_folds : Sp := fun vs H Q _ => ∃ (p : Addr) (m : Int) (n : Nat), vs = [.ref p, .int m] ∧ H p = some (rl n p) ∧ 202 ≤ n ∧ 1 ≤ m ∧ m ≤ 200 ∧
  ∀ q H' n' fs, n ≤ n' + 202 → Sr p n n' H H' → H q = none → H' q = some (.lst (fs.map V.int)) → isF m fs = true → Q (.ref q) H'
theorem ok_folds {f : Addr} {fd : FuncData} (o : Own K mg "_law_folds" s_law_folds ["spool", "size"] f fd) (T : Txt mg) (C_law_reel : Cal P w K mg base CX0 1 "_law_reel" s_law_reel ["spool", "size"] sp_pull) :
    Cal P w K mg base CX0 2 "_law_folds" s_law_folds ["spool", "size"] sp_folds := by
  refine ⟨f, fd, o, ?_⟩
  refine Dok.calm o.F sc_law_folds (fun vs H Q E h => ?_) (fun cdv A outer s H vs Q E hr h => ?_)
  · obtain ⟨p, m, n, rfl, _⟩ := h
    rfl
  obtain ⟨p, m, n, rfl, hp, hn, m1, m2, k⟩ := h
  refine ⟨_, (pss_cons (ps_asg (pe_tup (pa_cons (c_call C_law_reel (hr.mono (by omega)) pass0 (pa_cons (pv 0) (pa_cons pe_int pa_nil))) (pa_cons (pe_ix (k_ixL (K := K) rfl) (pe_lst (pa_cons pe_int (pa_cons pe_int pa_nil))) (c_call C_law_reel (hr.mono (by omega)) pass0 (pa_cons (pv 0) (pa_cons pe_int pa_nil))) (fun _ _ => rfl)) pa_nil))) (pg_tup rfl (pgs_cons (pg_name (i := 2) sc_law_folds.nd rfl (Or.inr rfl)) (pgs_cons (pg_name (i := 3) sc_law_folds.nd rfl (Or.inr rfl)) pgs_nil))))
    (pss_one (ps_ret (pe_lc (own := [("crease", 4)]) (g := (gName 4)) (by rfl) sc_law_folds.nd (pi_range1 rfl T.range (pa_cons (pe_op op_sub (pv 1) pe_int) pa_nil)) (blkOk_by (own := [("crease", 4)]) (N := ["spool", "size", "often", "wide", "crease"]) (sc := defScope s_law_folds) (by decide +kernel)) (fun _ _ _ _ _ => (pg_name (i := 4) sc_law_folds.nd rfl (Or.inl rfl))) (fun _ _ _ _ _ => (pts_one (pt_cmpR op_lt (c_call C_law_reel (hr.mono (by omega)) pass0 (pa_cons (pv 0) (pa_cons (pv 3) pa_nil))) (pv 2) (nomark _)))) (fun _ _ _ _ _ => (pv 4)))))), ?_⟩
  -- often, wide
  refine ⟨.ref p, rfl, p, 5, n, rfl, hp, by omega, by decide, by decide, fun r1 H1 s1 a1 b1 => ⟨(by show 2 ≤ sizeLine; decide), fun l hl => ?_⟩⟩
  have s2 := s1.new (o := .lst [.int 4, .int 40]) hl
  refine ⟨.ref p, rfl, p, 2, n - 1, rfl, s2.b, by omega, by decide, by decide, fun r2 H2 s3 a2 b2 => ?_⟩
  obtain ⟨v, ev, mv⟩ := at_mem (xs := [.int 4, .int 40]) a2 b2
  obtain ⟨wd, rfl, w1, w2⟩ : ∃ i, v = .int i ∧ 4 ≤ i ∧ i ≤ 40 := by
    simp only [List.mem_cons, List.not_mem_nil, or_false] at mv
    rcases mv with rfl | rfl <;> exact ⟨_, rfl, by omega, by omega⟩
  refine ⟨l, _, r2, .int wd, rfl, rfl, SqL.of (s3.lst upd_same), ev, (by show 2 ≤ sizeLine; decide), fun t nt => ?_⟩
  have s4 := (s2.trans s3).new (o := .tup [.int r1, .int wd]) nt
  refine ⟨t, _, rfl, SqT.of upd_same, rfl, .int r1, _, rfl, .int wd, [], rfl, rfl, ?_⟩
  generalize upd H2 t (.tup [.int r1, .int wd]) = H3 at s4
  -- the creases
  refine ⟨.int m, rfl, m, 1, rfl, rfl, _, rfl, by omega, by omega, fun D hD => ?_⟩
  have nD : H D = none := s4.free hD
  have e29 : (2 : Int) ^ 29 = 536870912 := by decide
  refine lc_it walk_range (fun i H' => ∃ fs : List Int, Sr p n (n - 2 - i) H H' ∧ H' D = some (.lst (fs.map V.int)) ∧ risingB m (-1) fs = true ∧ (∀ c ∈ fs, c < (i : Int)) ∧ fs.length ≤ i) ⟨[], ?_, upd_same, rfl, fun c hc => (by cases hc), Nat.zero_le _⟩ (fun _ _ _ _ => True.intro) ?_ ?_
  · have e : n - 2 - 0 = n - 1 - 1 := by omega
    rw [e]
    exact s4.new hD
  · rintro i x H4 H4' hi ⟨fs, s5, eD, hR, hc, hl⟩ ⟨rfl, rfl⟩
    have hi' : i < (m - 1).toNat := hi
    refine ⟨rfl, .ref p, rfl, .int wd, rfl, p, wd, n - 2 - i, rfl, s5.b, by omega, by omega, by omega, fun r H5 s6 r0 r1' => ?_⟩
    refine ⟨.int r1, rfl, r, r1, rfl, rfl, _, rfl, ?_⟩
    have e : n - 2 - i - 1 = n - 2 - (i + 1) := by omega
    have s7 := s5.trans s6
    rw [e] at s7
    have eD5 := s6.lst eD
    have e0 : (0 : Int) + (i : Int) = (i : Int) := Int.zero_add _
    refine ite2 (fun _ => ?_) (fun _ => ?_)
    · refine ⟨.int (0 + i), rfl, _, eD5, by rw [List.length_map]; exact long_ok (by omega), fs ++ [(i : Int)], s7.mut nD, ?_, rising_snoc hR hc (by omega) (by omega), fun c hc' => ?_, by simp; omega⟩
      · rw [upd_same, List.map_append, e0]
        rfl
      · rcases List.mem_append.mp hc' with h | h
        · have := hc c h
          omega
        · simp only [List.mem_singleton] at h
          subst h
          omega
    · refine ⟨fs, s7, eD5, hR, fun c hc' => ?_, by omega⟩
      have := hc c hc'
      omega
  · rintro H4 ⟨fs, s5, eD, hR, _, _⟩
    have e2 : (m - 1).toNat ≤ 199 := by omega
    refine k D H4 _ fs (by omega) s5 nD eD ?_
    unfold isF
    rw [decide_eq_true m1, decide_eq_true m2, hR]
    rfl
end
abbrev s_law_is_folding : Stmt := topS 26
theorem sc_law_is_folding : FnScope ["size", "creases", "crease", "beyond"] ["size", "creases"] (defScope s_law_is_folding) := ⟨rfl, rfl, rfl, by decide +kernel, rfl, by decide +kernel, by decide +kernel⟩

abbrev s_law_bent : Stmt := topS 27
theorem sc_law_bent : FnScope ["spool", "size", "creases", "at", "odd", "one", "some"] ["spool", "size", "creases"] (defScope s_law_bent) := ⟨rfl, rfl, rfl, by decide +kernel, rfl, by decide +kernel, by decide +kernel⟩

def bey (m : Int) (fs : List Int) : List Int := fs.filter fun c => decide (c < 0) || decide (c > m - 2)
theorem bey_app (m : Int) (a b : List Int) : bey m (a ++ b) = bey m a ++ bey m b := List.filter_append ..
theorem repr_facts {n : Nat} {d : PyData} (s : prt n d) (l : wt d ≤ 10000000) (hn : n ≤ 60 := by decide) : d.showable = true ∧ SeqAt.shaped d = true ∧ d.shown.length ≤ sizeLine := by
  obtain ⟨x, y⟩ := shown_le s
  refine ⟨x, shaped_of (prt_shp s) hn, ?_⟩
  have e : sizeLine = 16777216 := by rw [sizeLine_eq]
  rw [e]
  omega
def intsD (ns : List Int) : PyData := .list (ns.map PyData.int)
theorem dt_intsL {H : Hp} {q : Addr} {ns : List Int} (e : H q = some (.lst (ns.map V.int))) : Dt H (.ref q) (intsD ns) := .lst e (dt_ints ns)
theorem shp_ints (ns : List Int) : shp 1 (intsD ns) := shp_list fun d hd => by
  obtain ⟨z, _, rfl⟩ := List.mem_map.mp hd
  exact True.intro
theorem prt_ints {ns : List Int} (h : ∀ z ∈ ns, z.natAbs ≤ 1000) : prt 1 (intsD ns) := prt_list fun d hd => by
  obtain ⟨z, hz, rfl⟩ := List.mem_map.mp hd
  show z.natAbs < 10 ^ 31
  exact Nat.lt_of_le_of_lt (h z hz) (by decide)
theorem wt_ints (ns : List Int) : wt (intsD ns) ≤ ns.length * 42 + 2 := by
  have e := wtAll_le (m := 40) (ds := ns.map PyData.int) fun d hd => by
    obtain ⟨z, _, rfl⟩ := List.mem_map.mp hd
    exact Nat.le_refl 40
  rw [List.length_map] at e
  show wtAll (ns.map PyData.int) + 2 ≤ _
  omega
theorem inc_unique : ∀ {a b : List Int}, a.Pairwise (· < ·) → b.Pairwise (· < ·) → (∀ k, k ∈ a ↔ k ∈ b) → a = b
  | [], [], _, _, _ => rfl
  | [], y :: b, _, _, h => absurd ((h y).mpr List.mem_cons_self) List.not_mem_nil
  | x :: a, [], _, _, h => absurd ((h x).mp List.mem_cons_self) List.not_mem_nil
  | x :: a, y :: b, ha, hb, h => by
    obtain ⟨a1, a2⟩ := List.pairwise_cons.mp ha
    obtain ⟨b1, b2⟩ := List.pairwise_cons.mp hb
    have e : x = y := by
      rcases List.mem_cons.mp ((h x).mp List.mem_cons_self) with e | e
      · exact e
      · rcases List.mem_cons.mp ((h y).mpr List.mem_cons_self) with e2 | e2
        · exact e2.symm
        · have := b1 x e
          have := a1 y e2
          omega
    subst e
    rw [inc_unique a2 b2 fun k => ⟨fun hk => ?_, fun hk => ?_⟩]
    · rcases List.mem_cons.mp ((h k).mp (List.mem_cons_of_mem _ hk)) with e | e
      · have := a1 k hk
        omega
      · exact e
    · rcases List.mem_cons.mp ((h k).mpr (List.mem_cons_of_mem _ hk)) with e | e
      · have := b1 k hk
        omega
      · exact e
theorem rising_iff {m : Int} : ∀ {fs : List Int} {a : Int}, risingB m a fs = true ↔ (∀ c ∈ fs, a < c ∧ c < m - 1) ∧ fs.Pairwise (· < ·)
  | [], a => ⟨fun _ => ⟨fun c hc => absurd hc List.not_mem_nil, .nil⟩, fun _ => rfl⟩
  | c :: r, a => by
    rw [risingB_cons, Bool.and_eq_true, Bool.and_eq_true, decide_eq_true_eq, decide_eq_true_eq, rising_iff (fs := r) (a := c), List.pairwise_cons]
    constructor
    · rintro ⟨⟨h1, h2⟩, h3, h4⟩
      refine ⟨fun d hd => ?_, fun d hd => (h3 d hd).1, h4⟩
      rcases List.mem_cons.mp hd with rfl | hd
      · exact ⟨h1, h2⟩
      · have := h3 d hd
        omega
    · rintro ⟨h1, h2, h3⟩
      have q := h1 c List.mem_cons_self
      exact ⟨q, fun d hd => ⟨h2 d hd, (h1 d (List.mem_cons_of_mem _ hd)).2⟩, h3⟩
theorem isF_look {m : Int} {fs ns : List Int} (hs : ns.Pairwise (· < ·)) (hm : ∀ k, k ∈ ns ↔ k ∈ fs) : isF m fs = (decide (1 ≤ m) && decide (m ≤ 200) && (decide (fs = ns) && decide (bey m fs = []))) := by
  have e : risingB m (-1) fs = (decide (fs = ns) && decide (bey m fs = [])) := by
    rw [Bool.eq_iff_iff, rising_iff, Bool.and_eq_true, decide_eq_true_eq, decide_eq_true_eq]
    constructor
    · rintro ⟨h1, h2⟩
      refine ⟨inc_unique h2 hs fun k => (hm k).symm, List.filter_eq_nil_iff.mpr fun c hc => ?_⟩
      have := h1 c hc
      simp
      omega
    · rintro ⟨rfl, h2⟩
      refine ⟨fun c hc => ?_, hs⟩
      have := List.filter_eq_nil_iff.mp h2 c hc
      simp at this
      omega
  unfold isF
  rw [e]
theorem eqv_ints : ∀ (a b : List Int), PyData.eqvAll (a.map PyData.int) (b.map PyData.int) = decide (a = b)
  | [], [] => rfl
  | [], _ :: _ => rfl
  | _ :: _, [] => rfl
  | x :: a, y :: b => by
    show ((x == y) && PyData.eqvAll (a.map PyData.int) (b.map PyData.int)) = _
    rw [eqv_ints a b, Bool.eq_iff_iff]
    simp
section
variable {P : Program} {w : World} {K : PySem.W.Frag} {mg : Str → Option Value} {base : Heap}
def sp_look : Sp := fun vs H Q _ => ∃ (a : Addr) (m : Int) (fs : List Int), vs = [.int m, .ref a] ∧ H a = some (.lst (fs.map V.int)) ∧ fs.length ≤ 1000 ∧ ∀ H', Same H H' → Q (.bl (isF m fs)) H'
theorem ok_look {f : Addr} {fd : FuncData} (o : Own K mg "_law_is_folding" s_law_is_folding ["size", "creases"] f fd) (T : Txt mg) : Cal P w K mg base CX0 1 "_law_is_folding" s_law_is_folding ["size", "creases"] sp_look := by
  refine ⟨f, fd, o, ?_⟩
  refine Dok.calm o.F sc_law_is_folding (fun vs H Q E h => ?_) (fun cdv A outer s H vs Q E hr h => ?_)
  · obtain ⟨a, m, fs, rfl, _⟩ := h
    rfl
  obtain ⟨a, m, fs, rfl, ea, hl, k⟩ := h
  refine ⟨_, (pss_cons (ps_setLc (i := 3) (own := [("crease", 2)]) (g := (gName 2)) (by rfl) sc_law_is_folding.nd rfl rfl (sw_true rfl rfl rfl (by decide +kernel)) (pi_list (pv 1)) (blkOk_by (own := [("crease", 2)]) (N := ["size", "creases", "crease", "beyond"]) (sc := defScope s_law_is_folding) (by decide +kernel)) (fun _ _ _ _ _ => (pg_name (i := 2) sc_law_is_folding.nd rfl (Or.inl rfl))) (fun _ _ _ _ _ => (pts_one (PW.pt (pw_or (pt_cmpR op_lt (pv 2) pe_int (nomark _)) (pw_or1 (pt_cmpR op_gt (pv 2) (pe_op op_sub (pv 0) pe_int) (nomark _))))))) (fun _ _ _ _ _ => (pv 2)))
    (pss_one (ps_ret (pe_and (pe_chain op_le op_le pe_int (pv 0) pe_int) (pe_and (pe_cmpR (k_eqD (K := K) rfl hr.r.units) (pv 1) (pe_callB (kc_sortS rfl) (by rfl) T.sorted (by decide +kernel) (pa_cons (pe_callTy (kc_setS (K := K) rfl rfl) (by rfl) T.set (by decide +kernel) (pa_cons (pv 1) pa_nil)) pa_nil)) (nomark _)) (pe_one (pe_cmpR (k_eqD (K := K) rfl hr.r.units) (pv 3) (pe_lst pa_nil) (nomark _)))))))), ?_⟩
  refine ⟨.ref a, rfl, a, rfl, ⟨_, SqL.of ea⟩, fun D hD => ?_⟩
  refine lc_it (walk_list (xs := fs.map V.int)) (fun i H' => Same H H' ∧ H' D = some (.lst ((bey m (fs.take i)).map V.int))) ⟨same_new hD, upd_same⟩ (fun i H' _ e => SqL.of (e.1 _ _ ea)) ?_ ?_
  · rintro i x H1 H1' hi ⟨s1, eD⟩ ⟨rfl, ex⟩
    obtain ⟨c, ec, rfl⟩ : ∃ c, fs[i]? = some c ∧ x = .int c := by
      rw [List.getElem?_map] at ex
      cases e : fs[i]? with
      | none => rw [e] at ex; cases ex
      | some c => rw [e] at ex; exact ⟨c, rfl, (Option.some.inj ex).symm⟩
    have hlt : i < fs.length := (List.getElem?_eq_some_iff.mp ec).1
    have et : fs.take (i + 1) = fs.take i ++ [c] := by
      rw [List.take_succ, ec]
      rfl
    have lb : (bey m (fs.take i)).length ≤ fs.length := Nat.le_trans (List.length_filter_le _ _) (by rw [List.length_take]; omega)
    have yes : c < 0 ∨ c > m - 2 → ∃ acc, H1' D = some (HO.lst acc) ∧ acc.length < sizeLine ∧ (Same H (upd H1' D (HO.lst (acc ++ [V.int c]))) ∧ upd H1' D (HO.lst (acc ++ [V.int c])) D = some (.lst ((bey m (fs.take (i + 1))).map V.int))) := fun hc => by
      refine ⟨_, eD, by rw [List.length_map]; exact long_ok (by omega), same_mut s1 hD, ?_⟩
      have e : bey m [c] = [c] := List.filter_cons_of_pos (by simpa using hc)
      rw [upd_same, et, bey_app, e, List.map_append]
      rfl
    by_cases d1 : c < 0
    · exact ⟨rfl, .int c, rfl, c, 0, rfl, rfl, true, congrArg V.bl (decide_eq_true d1), iteT (iteT ⟨.int c, rfl, yes (.inl d1)⟩)⟩
    · refine ⟨rfl, .int c, rfl, c, 0, rfl, rfl, false, congrArg V.bl (decide_eq_false d1), iteF ?_⟩
      by_cases d2 : c > m - 2
      · exact ⟨.int c, rfl, .int m, rfl, m, 2, rfl, rfl, c, m - 2, rfl, rfl, true, congrArg V.bl (decide_eq_true d2), iteT ⟨.int c, rfl, yes (.inr d2)⟩⟩
      · refine ⟨.int c, rfl, .int m, rfl, m, 2, rfl, rfl, c, m - 2, rfl, rfl, false, congrArg V.bl (decide_eq_false d2), iteF ⟨s1, ?_⟩⟩
        have e : bey m [c] = [] := List.filter_cons_of_neg (by simp; omega)
        rw [eD, et, bey_app, e, List.append_nil]
  rintro H1 ⟨s1, eD⟩
  rw [List.length_map, List.take_of_length_le (Nat.le_refl _)] at eD
  by_cases c1 : 1 ≤ m
  · by_cases c2 : m ≤ 200
    · refine ⟨.int m, rfl, 1, m, rfl, rfl, true, congrArg V.bl (decide_eq_true c1), iteT ⟨m, 200, rfl, rfl, true, congrArg V.bl (decide_eq_true c2), iteT ?_⟩⟩
      refine ⟨.ref a, rfl, .ref a, rfl, a, fs, rfl, SqL.of (s1 _ _ ea), by omega, fun p c hp hc => ?_⟩
      refine ⟨p, _, c, rfl, upd_same, by omega, fun ns p2 h1 h2 h3 hp2 => ?_⟩
      have s2 := (same_new (o := SetO w p (fun j => decide (j ∈ fs)) c) hp).trans (same_new (o := .lst (ns.map V.int)) hp2)
      have hm : ∀ k, k ∈ ns ↔ k ∈ fs := fun k => by rw [h2 k, decide_eq_true_eq]
      have e := isF_look (m := m) h1 hm
      rw [decide_eq_true c1, decide_eq_true c2, Bool.true_and, Bool.true_and] at e
      refine ⟨intsD fs, intsD ns, (dt_intsL (s2 _ _ (s1 _ _ ea))).dp, (dt_intsL upd_same).dp, shaped_of (shp_ints _), shaped_of (shp_ints _), decide (fs = ns), congrArg V.bl (eqv_ints _ _), ?_⟩
      by_cases c3 : fs = ns
      · rw [decide_eq_true c3] at e ⊢
        refine iteT ⟨.ref D, rfl, Nat.zero_le _, fun u nu => ?_⟩
        have s3 := same_new (o := .lst []) nu
        refine ⟨intsD (bey m fs), intsD [], (dt_intsL (s3 _ _ (s2 _ _ eD))).dp, (dt_intsL (ns := []) upd_same).dp, shaped_of (shp_ints _), shaped_of (shp_ints _), ?_⟩
        have e2 : PyData.eqv (intsD (bey m fs)) (intsD []) = isF m fs := by
          rw [e, Bool.true_and]
          exact eqv_ints (bey m fs) []
        rw [e2]
        exact k _ (s1.trans (s2.trans s3))
      · rw [decide_eq_false c3] at e ⊢
        refine iteF ?_
        have q := k _ (s1.trans s2)
        rw [e] at q
        exact q
    · refine ⟨.int m, rfl, 1, m, rfl, rfl, true, congrArg V.bl (decide_eq_true c1), iteT ⟨m, 200, rfl, rfl, false, congrArg V.bl (decide_eq_false c2), iteF ?_⟩⟩
      have q := k _ s1
      unfold isF at q
      rw [decide_eq_false c2, Bool.and_false] at q
      exact q
  · refine ⟨.int m, rfl, 1, m, rfl, rfl, false, congrArg V.bl (decide_eq_false c1), iteF ⟨false, rfl, iteF ?_⟩⟩
    have q := k _ s1
    unfold isF at q
    rw [decide_eq_false c1] at q
    exact q
/-- a list of whole numbers, not too long -/
def IL (H : Hp) (r : Addr) : Prop := ∃ gs : List Int, H r = some (.lst (gs.map V.int)) ∧ gs.length ≤ 700
theorem IL.same {H H' : Hp} {r : Addr} (h : IL H r) (s : Same H H') : IL H' r := by
  obtain ⟨gs, e, l⟩ := h
  exact ⟨gs, s _ _ e, l⟩
theorem IL.new {H : Hp} {q : Addr} {gs : List Int} (_ : H q = none) (l : gs.length ≤ 700) : IL (upd H q (.lst (gs.map V.int))) q := ⟨gs, upd_same, l⟩
theorem cut_ints (fs : List Int) (x y : Option Int) : ∃ gs : List Int, cutV (fs.map V.int) x y = gs.map V.int ∧ gs.length ≤ fs.length := by
  unfold cutV
  rw [List.length_map, ← List.map_drop, ← List.map_take]
  exact ⟨_, rfl, by rw [List.length_take, List.length_drop]; omega⟩
def sp_bent : Sp := fun vs H Q _ => ∃ (p a : Addr) (m : Int) (fs : List Int) (n : Nat), vs = [.ref p, .int m, .ref a] ∧ H p = some (rl n p) ∧ 8 ≤ n ∧ 1 ≤ m ∧ m ≤ 200 ∧ H a = some (.lst (fs.map V.int)) ∧ fs.length ≤ 200 ∧ ∀ H' n' q (gs : List Int), n ≤ n' + 8 → Sr p n n' H H' → H' q = some (.lst (gs.map V.int)) → gs.length ≤ 700 → Q (.ref q) H'
theorem ok_bent {f : Addr} {fd : FuncData} (o : Own K mg "_law_bent" s_law_bent ["spool", "size", "creases"] f fd) (T : Txt mg) (C_law_reel : Cal P w K mg base CX0 1 "_law_reel" s_law_reel ["spool", "size"] sp_pull) : Cal P w K mg base CX0 2 "_law_bent" s_law_bent ["spool", "size", "creases"] sp_bent := by
  refine ⟨f, fd, o, ?_⟩
  refine Dok.calm o.F sc_law_bent (fun vs H Q E h => ?_) (fun cdv A outer s H vs Q E hr h => ?_)
  · obtain ⟨p, a, m, fs, n, rfl, _⟩ := h
    rfl
  obtain ⟨p, a, m, fs, n, rfl, ep, hn, m1, m2, ea, hl, k⟩ := h
  refine ⟨_, (pss_cons (ps_set (i := 3) sc_law_bent.nd rfl (Or.inr rfl) (c_call C_law_reel (hr.mono (by omega)) pass0 (pa_cons (pv 0) (pa_cons (pe_op op_add (pe_callB (kc_len (K := K) rfl) (by rfl) T.len (by decide +kernel) (pa_cons (pv 2) pa_nil)) pe_int) pa_nil))))
    (pss_cons (ps_set (i := 4) sc_law_bent.nd rfl (Or.inl rfl) (pe_lst (pa_cons (pe_un un_neg pe_int) (pa_cons (pe_op op_sub (pv 1) pe_int) (pa_cons (pv 1) (pa_cons (pe_op op_pow pe_int pe_int) (pa_cons (pe_op op_sub pe_int (pe_op op_pow pe_int pe_int)) (pa_cons pe_int (pa_cons (c_call C_law_reel (hr.mono (by omega)) pass0 (pa_cons (pv 0) (pa_cons (pv 1) pa_nil))) (pa_cons (pe_op op_pow pe_int pe_int) pa_nil))))))))))
    (pss_cons (ps_setLc (i := 6) (own := [("one", 5)]) (g := (gName 5)) (by rfl) sc_law_bent.nd rfl rfl (sw_true rfl rfl rfl (by decide +kernel)) (pi_list (pv 4)) (blkOk_by (own := [("one", 5)]) (N := ["spool", "size", "creases", "at", "odd", "one", "some"]) (sc := defScope s_law_bent) (by decide +kernel)) (fun _ _ _ _ _ => (pg_name (i := 5) sc_law_bent.nd rfl (Or.inl rfl))) (fun _ _ _ _ _ => pts_nil) (fun _ _ _ _ _ => (pe_op op_cat (pe_op op_cat (pe_slice (k_slL (K := K) rfl) (pv 2) po_none (po_some (pv 3))) (pe_lst (pa_cons (pv 5) pa_nil))) (pe_slice (k_slL (K := K) rfl) (pv 2) (po_some (pv 3)) po_none))))
    (pss_cons (ps_set (i := 6) sc_law_bent.nd rfl (Or.inl rfl) (pe_op op_cat (pv 6) (pe_lst (pa_cons (pe_revL (pv 2)) (pa_cons (pe_op op_cat (pv 2) (pv 2)) (pa_cons (pe_op op_cat (pe_slice (k_slL (K := K) rfl) (pv 2) po_none (po_some (pv 3))) (pe_slice (k_slL (K := K) rfl) (pv 2) (po_some (pe_op op_add (pv 3) pe_int)) po_none)) pa_nil))))))
    (pss_cons (ps_expr (pe_bm PySem.F.plainAttrs_list PySem.F.slot_list_append PySem.F.type_list_append mt_append (pv 6) (pa_cons (pe_op op_cat (pe_op op_cat (pe_slice (k_slL (K := K) rfl) (pv 2) po_none (po_some (pv 3))) (pe_revL (pe_slice (k_slL (K := K) rfl) (pv 2) (po_some (pv 3)) (po_some (pe_op op_add (pv 3) pe_int))))) (pe_slice (k_slL (K := K) rfl) (pv 2) (po_some (pe_op op_add (pv 3) pe_int)) po_none)) pa_nil)))
    (pss_cons (ps_set (i := 6) sc_law_bent.nd rfl (Or.inl rfl) (pe_op op_cat (pv 6) (pe_lst (pa_cons (pe_op op_cat (pe_slice (k_slL (K := K) rfl) (pv 2) (po_some (pv 3)) po_none) (pe_slice (k_slL (K := K) rfl) (pv 2) po_none (po_some (pv 3)))) (pa_cons (pe_lst (pa_cons (pe_op op_sub (pv 1) pe_int) pa_nil)) (pa_cons (pe_lst (pa_cons (pe_un un_neg pe_int) pa_nil)) (pa_cons (pe_lst pa_nil) (pa_cons (pe_op op_cat (pv 2) (pe_lst (pa_cons (pe_op op_sub (pv 1) pe_int) pa_nil))) (pa_cons (pe_op op_cat (pv 2) (pe_lst (pa_cons (pe_op op_sub (pv 1) pe_int) pa_nil))) pa_nil)))))))))
    (pss_one (ps_ret (pe_ix (k_ixL (K := K) rfl) (pv 6) (c_call C_law_reel (hr.mono (by omega)) pass0 (pa_cons (pv 0) (pa_cons (pe_callB (kc_len (K := K) rfl) (by rfl) T.len (by decide +kernel) (pa_cons (pv 6) pa_nil)) pa_nil))) (fun _ _ => rfl)))))))))), ?_⟩
  refine ⟨.ref p, rfl, .ref a, rfl, a, _, rfl, .inl (SqL.of ea), _, 1, rfl, rfl, p, _, n, rfl, ep, by omega, ?_, ?_, fun at_ H1 s1 a0 a1 => ?_⟩
  · omega
  · rw [List.length_map]
    omega
  have e29 : (10 : Int) ^ 29 = 100000000000000000000000000000 := by decide
  have big : ∀ {k : Nat}, k ≤ 1000 → k ≤ sizeLine := fun h => Nat.le_of_lt (long_ok (by omega))
  -- odd
  refine ⟨1, rfl, .int m, rfl, m, 1, rfl, rfl, .int m, rfl, 10, 29, rfl, rfl, ⟨by decide, by decide, by decide⟩, 10, 29, rfl, rfl, ⟨by decide, by decide, by decide⟩, 0, 10 ^ 29, rfl, rfl, .ref p, rfl, .int m, rfl, p, m, n - 1, rfl, s1.b, by omega, by omega, by omega, fun r2 H2 s2 b0 b1 => ⟨10, 9, rfl, rfl, ⟨by decide, by decide, by decide⟩, (by show 8 ≤ sizeLine; decide), fun lo nlo => ?_⟩⟩
  have s3 := (s1.trans s2).new (o := .lst (([-1, m - 1, m, 10 ^ 29, 0 - 10 ^ 29, 0, r2, 10 ^ 9] : List Int).map V.int)) nlo
  have elo : upd H2 lo (.lst (([-1, m - 1, m, 10 ^ 29, 0 - 10 ^ 29, 0, r2, 10 ^ 9] : List Int).map V.int)) lo = some (.lst (([-1, m - 1, m, 10 ^ 29, 0 - 10 ^ 29, 0, r2, 10 ^ 9] : List Int).map V.int)) := upd_same
  show gName 4 (V.ref lo) _ (upd H2 lo (.lst (([-1, m - 1, m, 10 ^ 29, 0 - 10 ^ 29, 0, r2, 10 ^ 9] : List Int).map V.int))) _
  generalize upd H2 lo (.lst (([-1, m - 1, m, 10 ^ 29, 0 - 10 ^ 29, 0, r2, 10 ^ 9] : List Int).map V.int)) = H3 at s3 elo
  have ea3 := s3.lst ea
  -- some
  refine ⟨.ref lo, rfl, lo, rfl, ⟨_, SqL.of elo⟩, fun D hD => ?_⟩
  refine lc_it (walk_list (xs := ([-1, m - 1, m, 10 ^ 29, 0 - 10 ^ 29, 0, r2, 10 ^ 9] : List Int).map V.int)) (fun i H' => ∃ rs : List Addr, rs.length = i ∧ Same H3 H' ∧ H' D = some (.lst (rs.map V.ref)) ∧ ∀ r ∈ rs, r ≠ D ∧ IL H' r) ⟨[], rfl, same_new hD, upd_same, fun r hr => absurd hr List.not_mem_nil⟩ (fun i H' _ ⟨_, _, s, _⟩ => SqL.of (s _ _ elo)) ?_ ?_
  · rintro i x H4 H4' hi ⟨rs, lr, s4, eD, il⟩ ⟨rfl, ex⟩
    have hi8 : i < 8 := hi
    obtain ⟨one, rfl⟩ : ∃ z, x = .int z := by
      rw [List.getElem?_map] at ex
      cases e : ([-1, m - 1, m, 10 ^ 29, 0 - 10 ^ 29, 0, r2, 10 ^ 9] : List Int)[i]? with
      | none => rw [e] at ex; cases ex
      | some z => rw [e] at ex; exact ⟨z, (Option.some.inj ex).symm⟩
    refine ⟨rfl, tyes (iteT ?_)⟩
    obtain ⟨g1, c1, l1⟩ := cut_ints fs none (some at_)
    obtain ⟨g2, c2, l2⟩ := cut_ints fs (some at_) none
    refine ⟨.ref a, rfl, .int at_, rfl, _, rfl, a, _, rfl, SqL.of (s4 _ _ ea3), fun p1 n1 => ?_⟩
    rw [c1]
    have t1 := same_new (o := .lst (g1.map V.int)) n1
    refine ⟨.int one, rfl, (by show 1 ≤ sizeLine; decide), fun p2 n2 => ?_⟩
    have t2 := same_new (o := .lst [.int one]) n2
    refine ⟨p1, p2, _, _, rfl, rfl, t2 _ _ upd_same, upd_same, big (by rw [List.length_map]; show _ + 1 ≤ 1000; omega), fun p3 n3 => ?_⟩
    have t3 := same_new (o := .lst (g1.map V.int ++ [.int one])) n3
    refine ⟨.ref a, rfl, .int at_, rfl, _, rfl, a, _, rfl, SqL.of (t3 _ _ (t2 _ _ (t1 _ _ (s4 _ _ ea3)))), fun p4 n4 => ?_⟩
    rw [c2]
    have t4 := same_new (o := .lst (g2.map V.int)) n4
    refine ⟨p3, p4, _, _, rfl, rfl, t4 _ _ upd_same, upd_same, big (by rw [List.length_append, List.length_map, List.length_map]; show _ + 1 + _ ≤ 1000; omega), fun p5 n5 => ?_⟩
    have t5 := same_new (o := .lst (g1.map V.int ++ [.int one] ++ g2.map V.int)) n5
    have t15 := (t1.trans t2).trans ((t3.trans t4).trans t5)
    have eD5 := t15 _ _ eD
    have np5 : p5 ≠ D := (ne_of_none (((t1.trans t2).trans (t3.trans t4)) _ _ eD) n5).symm
    refine ⟨_, eD5, ?_, rs ++ [p5], ?_, same_mut (s4.trans t15) hD, ?_, fun r hr => ?_⟩
    · rw [List.length_map]
      exact long_ok (by omega)
    · rw [List.length_append, lr]
      rfl
    · rw [upd_same, List.map_append]
      rfl
    · rcases List.mem_append.mp hr with hr | hr
      · obtain ⟨x1, gs, x2, x3⟩ := il r hr
        exact ⟨x1, gs, by rw [upd_ne x1]; exact t15 _ _ x2, x3⟩
      · rw [List.mem_singleton] at hr
        subst hr
        refine ⟨np5, g1 ++ [one] ++ g2, ?_, ?_⟩
        · rw [upd_ne np5, upd_same, List.map_append, List.map_append]
          rfl
        · rw [List.length_append, List.length_append]
          show _ + 1 + _ ≤ 700
          omega
  rintro H4 ⟨rs, lr, s4, eD, il⟩
  have lr8 : rs.length = 8 := lr
  replace il : ∀ r ∈ rs, IL H4 r := fun r hr => (il r hr).2
  have s04 := s3.then s4
  have ea4 := s04.lst ea
  clear s3 s4 elo ea3
  -- some + [creases[::-1], creases + creases, creases[:at] + creases[at + 1:]]
  obtain ⟨g1, c1, l1⟩ := cut_ints fs none (some at_)
  obtain ⟨g2, c2, l2⟩ := cut_ints fs (some (at_ + 1)) none
  refine ⟨.ref D, rfl, .ref a, rfl, a, _, rfl, SqL.of ea4, fun p1 n1 => ?_⟩
  rw [← List.map_reverse]
  have t1 := same_new (o := .lst (fs.reverse.map V.int)) n1
  have i1 := IL.new (gs := fs.reverse) n1 (by rw [List.length_reverse]; omega)
  generalize upd H4 p1 (.lst (fs.reverse.map V.int)) = X1 at t1 i1
  refine ⟨.ref a, rfl, .ref a, rfl, a, a, _, _, rfl, rfl, t1 _ _ ea4, t1 _ _ ea4, big (by rw [List.length_map]; omega), fun p2 n2 => ?_⟩
  rw [← List.map_append]
  have t2 := same_new (o := .lst ((fs ++ fs).map V.int)) n2
  have i2 := IL.new (gs := fs ++ fs) n2 (by rw [List.length_append]; omega)
  generalize upd X1 p2 (.lst ((fs ++ fs).map V.int)) = X2 at t2 i2
  have t12 := t1.trans t2
  refine ⟨.ref a, rfl, .int at_, rfl, _, rfl, a, _, rfl, SqL.of (t12 _ _ ea4), fun p3 n3 => ?_⟩
  rw [c1]
  have t3 := same_new (o := .lst (g1.map V.int)) n3
  have e3 := upd_same (H := X2) (a := p3) (o := .lst (g1.map V.int))
  generalize upd X2 p3 (.lst (g1.map V.int)) = X3 at t3 e3
  refine ⟨.ref a, rfl, .int at_, rfl, at_, 1, rfl, rfl, _, rfl, a, _, rfl, SqL.of (t3 _ _ (t12 _ _ ea4)), fun p4 n4 => ?_⟩
  rw [c2]
  have t4 := same_new (o := .lst (g2.map V.int)) n4
  have e4 := upd_same (H := X3) (a := p4) (o := .lst (g2.map V.int))
  generalize upd X3 p4 (.lst (g2.map V.int)) = X4 at t4 e4
  refine ⟨p3, p4, _, _, rfl, rfl, t4 _ _ e3, e4, big (by rw [List.length_map, List.length_map]; omega), fun p5 n5 => ?_⟩
  rw [← List.map_append]
  have t5 := same_new (o := .lst ((g1 ++ g2).map V.int)) n5
  have i5 := IL.new (gs := g1 ++ g2) n5 (by rw [List.length_append]; omega)
  generalize upd X4 p5 (.lst ((g1 ++ g2).map V.int)) = X5 at t5 i5
  have t35 := (t3.trans t4).trans t5
  refine ⟨(by show 3 ≤ sizeLine; decide), fun l3 nl3 => ?_⟩
  have t6 := same_new (o := .lst [.ref p1, .ref p2, .ref p5]) nl3
  have e6 := upd_same (H := X5) (a := l3) (o := .lst [.ref p1, .ref p2, .ref p5])
  generalize upd X5 l3 (.lst [.ref p1, .ref p2, .ref p5]) = X6 at t6 e6
  have t16 := (t12.trans t35).trans t6
  refine ⟨D, l3, _, _, rfl, rfl, t16 _ _ eD, e6, big (by rw [List.length_map, lr8]; show 8 + 3 ≤ 1000; decide), fun S1 nS1 => ?_⟩
  have t7 := same_new (o := .lst (rs.map V.ref ++ [.ref p1, .ref p2, .ref p5])) nS1
  have eS : upd X6 S1 (.lst (rs.map V.ref ++ [.ref p1, .ref p2, .ref p5])) S1 = some (.lst ((rs ++ [p1, p2, p5]).map V.ref)) := by
    rw [upd_same, List.map_append]
    rfl
  have il2 : ∀ r ∈ rs ++ [p1, p2, p5], r ≠ S1 ∧ IL (upd X6 S1 (.lst (rs.map V.ref ++ [.ref p1, .ref p2, .ref p5]))) r := fun r hr => by
    have x : IL X6 r := by
      rcases List.mem_append.mp hr with hr | hr
      · exact (il r hr).same t16
      · simp only [List.mem_cons, List.not_mem_nil, or_false] at hr
        rcases hr with rfl | rfl | rfl
        · exact ((i1.same t2).same t35).same t6
        · exact (i2.same t35).same t6
        · exact i5.same t6
    obtain ⟨gs, e, l⟩ := id x
    exact ⟨ne_of_none e nS1, x.same t7⟩
  have s05 := s04.then (t16.trans t7)
  have nS1H : H S1 = none := s04.free (t16.free nS1)
  have lr11 : (rs ++ [p1, p2, p5]).length = 11 := by
    rw [List.length_append, lr8]
    rfl
  generalize upd X6 S1 (.lst (rs.map V.ref ++ [.ref p1, .ref p2, .ref p5])) = H5 at t7 eS il2 s05
  generalize rs ++ [p1, p2, p5] = rs at lr11 eS il2
  have ea5 := s05.lst ea
  -- some.append(creases[:at] + creases[at:at + 2][::-1] + creases[at + 2:])
  obtain ⟨g3, c3, l3'⟩ := cut_ints fs (some at_) (some (at_ + 2))
  obtain ⟨g4, c4, l4⟩ := cut_ints fs (some (at_ + 2)) none
  refine ⟨.ref S1, rfl, .inl ⟨rfl, _, SqL.of eS⟩, .ref a, rfl, .int at_, rfl, _, rfl, a, _, rfl, SqL.of ea5, fun q1 m1' => ?_⟩
  rw [c1]
  have u1 := same_new (o := .lst (g1.map V.int)) m1'
  have f1 := upd_same (H := H5) (a := q1) (o := .lst (g1.map V.int))
  generalize upd H5 q1 (.lst (g1.map V.int)) = Y1 at u1 f1
  refine ⟨.ref a, rfl, .int at_, rfl, _, rfl, .int at_, rfl, at_, 2, rfl, rfl, _, rfl, a, _, rfl, SqL.of (u1 _ _ ea5), fun q2 m2' => ?_⟩
  rw [c3]
  have u2 := same_new (o := .lst (g3.map V.int)) m2'
  have f2 := upd_same (H := Y1) (a := q2) (o := .lst (g3.map V.int))
  generalize upd Y1 q2 (.lst (g3.map V.int)) = Y2 at u2 f2
  refine ⟨q2, _, rfl, SqL.of f2, fun q3 m3' => ?_⟩
  rw [← List.map_reverse]
  have u3 := same_new (o := .lst (g3.reverse.map V.int)) m3'
  have f3 := upd_same (H := Y2) (a := q3) (o := .lst (g3.reverse.map V.int))
  generalize upd Y2 q3 (.lst (g3.reverse.map V.int)) = Y3 at u3 f3
  refine ⟨q1, q3, _, _, rfl, rfl, u3 _ _ (u2 _ _ f1), f3, big (by rw [List.length_map, List.length_map, List.length_reverse]; omega), fun q4 m4' => ?_⟩
  rw [← List.map_append]
  have u4 := same_new (o := .lst ((g1 ++ g3.reverse).map V.int)) m4'
  have f4 := upd_same (H := Y3) (a := q4) (o := .lst ((g1 ++ g3.reverse).map V.int))
  generalize upd Y3 q4 (.lst ((g1 ++ g3.reverse).map V.int)) = Y4 at u4 f4
  have u14 := (u1.trans u2).trans (u3.trans u4)
  refine ⟨.ref a, rfl, .int at_, rfl, at_, 2, rfl, rfl, _, rfl, a, _, rfl, SqL.of (u14 _ _ ea5), fun q5 m5' => ?_⟩
  rw [c4]
  have u5 := same_new (o := .lst (g4.map V.int)) m5'
  have f5 := upd_same (H := Y4) (a := q5) (o := .lst (g4.map V.int))
  generalize upd Y4 q5 (.lst (g4.map V.int)) = Y5 at u5 f5
  refine ⟨q4, q5, _, _, rfl, rfl, u5 _ _ f4, f5, big (by rw [List.length_map, List.length_map, List.length_append, List.length_reverse]; omega), fun q6 m6' => ?_⟩
  rw [← List.map_append]
  have u6 := same_new (o := .lst ((g1 ++ g3.reverse ++ g4).map V.int)) m6'
  have i6 := IL.new (gs := g1 ++ g3.reverse ++ g4) m6' (by rw [List.length_append, List.length_append, List.length_reverse]; omega)
  generalize upd Y5 q6 (.lst ((g1 ++ g3.reverse ++ g4).map V.int)) = Y6 at u6 i6
  have u16 := u14.trans (u5.trans u6)
  have eS6 := u16 _ _ eS
  refine ⟨S1, _, _, rfl, rfl, eS6, by rw [List.length_map, lr11]; decide, ?_⟩
  have q6S : q6 ≠ S1 := (ne_of_none ((u14.trans u5) _ _ eS) m6').symm
  have s06 := (s05.then u16).mut (o := .lst (rs.map V.ref ++ [.ref q6])) nS1H
  have eS7 : upd Y6 S1 (.lst (rs.map V.ref ++ [.ref q6])) S1 = some (.lst ((rs ++ [q6]).map V.ref)) := by
    rw [upd_same, List.map_append]
    rfl
  have il3 : ∀ r ∈ rs ++ [q6], IL (upd Y6 S1 (.lst (rs.map V.ref ++ [.ref q6]))) r := fun r hr => by
    have x : r ≠ S1 ∧ IL Y6 r := by
      rcases List.mem_append.mp hr with hr | hr
      · exact ⟨(il2 r hr).1, (il2 r hr).2.same u16⟩
      · rw [List.mem_singleton] at hr
        subst hr
        exact ⟨q6S, i6⟩
    obtain ⟨y, gs, e, l⟩ := x
    exact ⟨gs, by rw [upd_ne y]; exact e, l⟩
  have lr12 : (rs ++ [q6]).length = 12 := by
    rw [List.length_append, lr11]
    rfl
  generalize upd Y6 S1 (.lst (rs.map V.ref ++ [.ref q6])) = H6 at s06 eS7 il3
  generalize rs ++ [q6] = rs at lr12 eS7 il3
  have ea6 := s06.lst ea
  -- some + [creases[at:] + creases[:at], [size - 1], [-1], [], creases + [size - 1], creases + [size - 2]]
  obtain ⟨g5, c5, l5⟩ := cut_ints fs (some at_) none
  refine ⟨.ref S1, rfl, .ref a, rfl, .int at_, rfl, _, rfl, a, _, rfl, SqL.of ea6, fun v1 k1 => ?_⟩
  rw [c5]
  have w1 := same_new (o := .lst (g5.map V.int)) k1
  have h1 := upd_same (H := H6) (a := v1) (o := .lst (g5.map V.int))
  generalize upd H6 v1 (.lst (g5.map V.int)) = Z1 at w1 h1
  refine ⟨.ref a, rfl, .int at_, rfl, _, rfl, a, _, rfl, SqL.of (w1 _ _ ea6), fun v2 k2 => ?_⟩
  rw [c1]
  have w2 := same_new (o := .lst (g1.map V.int)) k2
  have h2 := upd_same (H := Z1) (a := v2) (o := .lst (g1.map V.int))
  generalize upd Z1 v2 (.lst (g1.map V.int)) = Z2 at w2 h2
  refine ⟨v1, v2, _, _, rfl, rfl, w2 _ _ h1, h2, big (by rw [List.length_map, List.length_map]; omega), fun v3 k3 => ?_⟩
  rw [← List.map_append]
  have w3 := same_new (o := .lst ((g5 ++ g1).map V.int)) k3
  have j3 := IL.new (gs := g5 ++ g1) k3 (by rw [List.length_append]; omega)
  generalize upd Z2 v3 (.lst ((g5 ++ g1).map V.int)) = Z3 at w3 j3
  have w13 := (w1.trans w2).trans w3
  have one : 1 ≤ sizeLine := by decide
  have ez : ∀ {G : Hp}, Same H6 G → G a = some (.lst (fs.map V.int)) := fun s => s _ _ ea6
  refine ⟨.int m, rfl, m, 1, rfl, rfl, one, fun v4 k4 => ?_⟩
  have w4 := same_new (o := .lst [.int (m - 1)]) k4
  have j4 : IL (upd Z3 v4 (.lst [.int (m - 1)])) v4 := ⟨[m - 1], upd_same, by show 1 ≤ 700; decide⟩
  show tCons _ _ _ (upd Z3 v4 (.lst [.int (m - 1)])) _
  generalize upd Z3 v4 (.lst [.int (m - 1)]) = Z4 at w4 j4
  refine ⟨1, rfl, one, fun v5 k5 => ?_⟩
  have w5 := same_new (o := .lst [.int (-1)]) k5
  have j5 : IL (upd Z4 v5 (.lst [.int (-1)])) v5 := ⟨[-1], upd_same, by show 1 ≤ 700; decide⟩
  show tCons _ _ _ (upd Z4 v5 (.lst [.int (-1)])) _
  generalize upd Z4 v5 (.lst [.int (-1)]) = Z5 at w5 j5
  refine ⟨Nat.zero_le _, fun v6 k6 => ?_⟩
  have w6 := same_new (o := .lst []) k6
  have j6 : IL (upd Z5 v6 (.lst [])) v6 := ⟨[], upd_same, Nat.zero_le _⟩
  generalize upd Z5 v6 (.lst []) = Z6 at w6 j6
  have w46 := (w4.trans w5).trans w6
  have w16 := w13.trans w46
  refine ⟨.ref a, rfl, .int m, rfl, m, 1, rfl, rfl, one, fun v7 k7 => ?_⟩
  have w7 := same_new (o := .lst [.int (m - 1)]) k7
  refine ⟨a, v7, _, _, rfl, rfl, w7 _ _ (ez w16), upd_same, big (by rw [List.length_map]; show _ + 1 ≤ 1000; omega), fun v8 k8 => ?_⟩
  have w8 := w7.trans (same_new (o := .lst (fs.map V.int ++ [.int (m - 1)])) k8)
  have j8 : IL (upd (upd Z6 v7 (.lst [.int (m - 1)])) v8 (.lst (fs.map V.int ++ [.int (m - 1)]))) v8 := ⟨fs ++ [m - 1], by rw [upd_same, List.map_append]; rfl, by rw [List.length_append]; show _ + 1 ≤ 700; omega⟩
  show tCons _ _ _ (upd (upd Z6 v7 (.lst [.int (m - 1)])) v8 (.lst (fs.map V.int ++ [.int (m - 1)]))) _
  generalize upd (upd Z6 v7 (.lst [.int (m - 1)])) v8 (.lst (fs.map V.int ++ [.int (m - 1)])) = Z8 at w8 j8
  have w18 := w16.trans w8
  refine ⟨.ref a, rfl, .int m, rfl, m, 2, rfl, rfl, one, fun v9 k9 => ?_⟩
  have w9 := same_new (o := .lst [.int (m - 2)]) k9
  refine ⟨a, v9, _, _, rfl, rfl, w9 _ _ (ez w18), upd_same, big (by rw [List.length_map]; show _ + 1 ≤ 1000; omega), fun v10 k10 => ?_⟩
  have w10 := w9.trans (same_new (o := .lst (fs.map V.int ++ [.int (m - 2)])) k10)
  have j10 : IL (upd (upd Z8 v9 (.lst [.int (m - 2)])) v10 (.lst (fs.map V.int ++ [.int (m - 2)]))) v10 := ⟨fs ++ [m - 2], by rw [upd_same, List.map_append]; rfl, by rw [List.length_append]; show _ + 1 ≤ 700; omega⟩
  refine ⟨(by show 6 ≤ sizeLine; decide), fun l7 nl7 => ?_⟩
  have w11 := w10.trans (same_new (o := .lst [.ref v3, .ref v4, .ref v5, .ref v6, .ref v8, .ref v10]) nl7)
  have w811 := w8.trans w11
  have w111 := w16.trans w811
  refine ⟨S1, l7, _, _, rfl, rfl, w111 _ _ eS7, upd_same, big (by rw [List.length_map, lr12]; show 12 + 6 ≤ 1000; decide), fun S2 nS2 => ?_⟩
  have w12 := same_new (o := .lst (rs.map V.ref ++ [.ref v3, .ref v4, .ref v5, .ref v6, .ref v8, .ref v10])) nS2
  have sE := s06.then (w111.trans w12)
  have j10' := (j10.same (same_new (o := .lst [.ref v3, .ref v4, .ref v5, .ref v6, .ref v8, .ref v10]) nl7)).same w12
  have w1112 := w11.trans w12
  have w812 := w8.trans w1112
  have w612 := w6.trans w812
  have all : ∀ r ∈ rs ++ [v3, v4, v5, v6, v8, v10], IL _ r := fun r hr => by
    rcases List.mem_append.mp hr with hr | hr
    · exact (il3 r hr).same (w111.trans w12)
    · simp only [List.mem_cons, List.not_mem_nil, or_false] at hr
      rcases hr with rfl | rfl | rfl | rfl | rfl | rfl
      · exact j3.same (w46.trans w812)
      · exact j4.same (w5.trans w612)
      · exact j5.same w612
      · exact j6.same w812
      · exact j8.same w1112
      · exact j10'
  refine ⟨.ref S2, rfl, .ref p, rfl, .ref S2, rfl, S2, _, rfl, .inl (SqL.of upd_same), p, _, n - 1 - 1, rfl, sE.b, by omega, ?_, ?_, fun r H9 s9 r0 r1 => ?_⟩
  · rw [List.length_append, List.length_map, lr12]
    show (0 : Int) < ((12 + 6 : Nat) : Int)
    decide
  · rw [List.length_append, List.length_map, lr12]
    show ((12 + 6 : Nat) : Int) < 2 ^ 29
    decide
  have s9' := sE.trans s9
  obtain ⟨j, rfl⟩ := Int.eq_ofNat_of_zero_le r0
  have hj : j < (rs ++ [v3, v4, v5, v6, v8, v10]).length := by
    rw [List.length_append, List.length_map] at r1
    rw [List.length_append]
    exact Int.ofNat_lt.mp r1
  obtain ⟨gs, e, l⟩ := all _ (List.getElem_mem hj)
  refine ⟨S2, _, j, .ref (rs ++ [v3, v4, v5, v6, v8, v10])[j], rfl, rfl, SqL.of (s9.lst upd_same), ?_, k H9 _ _ gs (by omega) s9' (s9.lst e) l⟩
  refine atI_nat ?_
  have e2 : (rs.map V.ref ++ [V.ref v3, .ref v4, .ref v5, .ref v6, .ref v8, .ref v10]) = (rs ++ [v3, v4, v5, v6, v8, v10]).map V.ref := by rw [List.map_append]; rfl
  rw [e2, List.getElem?_map, List.getElem?_eq_getElem hj]
  rfl
end
def KW_places_0_folds_many {α : Type} : List α → List α → List α
  | [], [b0, b1] => [b1, b0]
  | _, _ => []
theorem KW_places_0_folds_many_b (kV doc pm : Value) (an : Option Addr) (cdv ct : Value) (us ws : List Value) (hl : (KW_places_0_folds_many us ws).length = (["many", "folds"] : List Str).length) :
    bindArgs (PySem.W.fnOf "places" "places" (defArgs s_places) (defBody s_places) (defScope s_places) .none kV doc pm an cdv ct) ⟨us, (["folds", "many"] : List Str).zip ws⟩ = pure ((["many", "folds"] : List Str).zip (KW_places_0_folds_many us ws)) := by
  unfold KW_places_0_folds_many at hl ⊢
  split at hl
  · rfl
  · cases hl
theorem KW_places_0_folds_many_r : ∀ {vs : List V} {us : List Value} {zs : List V} {ws : List Value}, Vals vs us → Vals zs ws → Vals (KW_places_0_folds_many vs zs) (KW_places_0_folds_many us ws)
  | _, _, _, _, .nil, .nil => .nil
  | _, _, _, _, .nil, (.cons _ .nil) => .nil
  | _, _, _, _, .nil, (.cons q0 (.cons q1 .nil)) => (.cons q1 (.cons q0 .nil))
  | _, _, _, _, .nil, (.cons _ (.cons _ (.cons _ _))) => .nil
  | _, _, _, _, (.cons _ _), .nil => .nil
  | _, _, _, _, (.cons _ _), (.cons _ .nil) => .nil
  | _, _, _, _, (.cons _ _), (.cons q0 (.cons q1 .nil)) => .nil
  | _, _, _, _, (.cons _ _), (.cons _ (.cons _ (.cons _ _))) => .nil

def KW_stacks_0_folds_many {α : Type} : List α → List α → List α
  | [], [b0, b1] => [b1, b0]
  | _, _ => []
theorem KW_stacks_0_folds_many_b (kV doc pm : Value) (an : Option Addr) (cdv ct : Value) (us ws : List Value) (hl : (KW_stacks_0_folds_many us ws).length = (["many", "folds"] : List Str).length) :
    bindArgs (PySem.W.fnOf "stacks" "stacks" (defArgs s_stacks) (defBody s_stacks) (defScope s_stacks) .none kV doc pm an cdv ct) ⟨us, (["folds", "many"] : List Str).zip ws⟩ = pure ((["many", "folds"] : List Str).zip (KW_stacks_0_folds_many us ws)) := by
  unfold KW_stacks_0_folds_many at hl ⊢
  split at hl
  · rfl
  · cases hl
theorem KW_stacks_0_folds_many_r : ∀ {vs : List V} {us : List Value} {zs : List V} {ws : List Value}, Vals vs us → Vals zs ws → Vals (KW_stacks_0_folds_many vs zs) (KW_stacks_0_folds_many us ws)
  | _, _, _, _, .nil, .nil => .nil
  | _, _, _, _, .nil, (.cons _ .nil) => .nil
  | _, _, _, _, .nil, (.cons q0 (.cons q1 .nil)) => (.cons q1 (.cons q0 .nil))
  | _, _, _, _, .nil, (.cons _ (.cons _ (.cons _ _))) => .nil
  | _, _, _, _, (.cons _ _), .nil => .nil
  | _, _, _, _, (.cons _ _), (.cons _ .nil) => .nil
  | _, _, _, _, (.cons _ _), (.cons q0 (.cons q1 .nil)) => .nil
  | _, _, _, _, (.cons _ _), (.cons _ (.cons _ (.cons _ _))) => .nil

def KW_cells_at_0_place_folds_many {α : Type} : List α → List α → List α
  | [], [b0, b1, b2] => [b2, b1, b0]
  | _, _ => []
theorem KW_cells_at_0_place_folds_many_b (kV doc pm : Value) (an : Option Addr) (cdv ct : Value) (us ws : List Value) (hl : (KW_cells_at_0_place_folds_many us ws).length = (["many", "folds", "place"] : List Str).length) :
    bindArgs (PySem.W.fnOf "cells_at" "cells_at" (defArgs s_cells_at) (defBody s_cells_at) (defScope s_cells_at) .none kV doc pm an cdv ct) ⟨us, (["place", "folds", "many"] : List Str).zip ws⟩ = pure ((["many", "folds", "place"] : List Str).zip (KW_cells_at_0_place_folds_many us ws)) := by
  unfold KW_cells_at_0_place_folds_many at hl ⊢
  split at hl
  · rfl
  · cases hl
theorem KW_cells_at_0_place_folds_many_r : ∀ {vs : List V} {us : List Value} {zs : List V} {ws : List Value}, Vals vs us → Vals zs ws → Vals (KW_cells_at_0_place_folds_many vs zs) (KW_cells_at_0_place_folds_many us ws)
  | _, _, _, _, .nil, .nil => .nil
  | _, _, _, _, .nil, (.cons _ .nil) => .nil
  | _, _, _, _, .nil, (.cons _ (.cons _ .nil)) => .nil
  | _, _, _, _, .nil, (.cons q0 (.cons q1 (.cons q2 .nil))) => (.cons q2 (.cons q1 (.cons q0 .nil)))
  | _, _, _, _, .nil, (.cons _ (.cons _ (.cons _ (.cons _ _)))) => .nil
  | _, _, _, _, (.cons _ _), .nil => .nil
  | _, _, _, _, (.cons _ _), (.cons _ .nil) => .nil
  | _, _, _, _, (.cons _ _), (.cons _ (.cons _ .nil)) => .nil
  | _, _, _, _, (.cons _ _), (.cons q0 (.cons q1 (.cons q2 .nil))) => .nil
  | _, _, _, _, (.cons _ _), (.cons _ (.cons _ (.cons _ (.cons _ _)))) => .nil

def KW_is_folding_0_folds_many {α : Type} : List α → List α → List α
  | [], [b0, b1] => [b1, b0]
  | _, _ => []
theorem KW_is_folding_0_folds_many_b (kV doc pm : Value) (an : Option Addr) (cdv ct : Value) (us ws : List Value) (hl : (KW_is_folding_0_folds_many us ws).length = (["many", "folds"] : List Str).length) :
    bindArgs (PySem.W.fnOf "is_folding" "is_folding" (defArgs s_is_folding) (defBody s_is_folding) (defScope s_is_folding) .none kV doc pm an cdv ct) ⟨us, (["folds", "many"] : List Str).zip ws⟩ = pure ((["many", "folds"] : List Str).zip (KW_is_folding_0_folds_many us ws)) := by
  unfold KW_is_folding_0_folds_many at hl ⊢
  split at hl
  · rfl
  · cases hl
theorem KW_is_folding_0_folds_many_r : ∀ {vs : List V} {us : List Value} {zs : List V} {ws : List Value}, Vals vs us → Vals zs ws → Vals (KW_is_folding_0_folds_many vs zs) (KW_is_folding_0_folds_many us ws)
  | _, _, _, _, .nil, .nil => .nil
  | _, _, _, _, .nil, (.cons _ .nil) => .nil
  | _, _, _, _, .nil, (.cons q0 (.cons q1 .nil)) => (.cons q1 (.cons q0 .nil))
  | _, _, _, _, .nil, (.cons _ (.cons _ (.cons _ _))) => .nil
  | _, _, _, _, (.cons _ _), .nil => .nil
  | _, _, _, _, (.cons _ _), (.cons _ .nil) => .nil
  | _, _, _, _, (.cons _ _), (.cons q0 (.cons q1 .nil)) => .nil
  | _, _, _, _, (.cons _ _), (.cons _ (.cons _ (.cons _ _))) => .nil

abbrev s_law_said : Stmt := topS 28
theorem sc_law_said : FnScope ["way", "size", "creases", "caught", "e"] ["way", "size", "creases"] (defScope s_law_said) := ⟨rfl, rfl, rfl, by decide +kernel, rfl, by decide +kernel, by decide +kernel⟩

section
variable {P : Program} {w : World} {K : PySem.W.Frag} {mg : Str → Option Value} {base : Heap}
def sp_said : Sp := fun vs H Q _ => ∃ (a : Addr) (y m : Int) (fs : List Int), vs = [.int y, .int m, .ref a] ∧ 0 ≤ y ∧ y < 5 ∧ H a = some (.lst (fs.map V.int)) ∧ ∀ H', Same H H' → Q (.str (if isF m fs = true then "told" else "none")) H'
theorem ok_said {f : Addr} {fd : FuncData} (o : Own K mg "_law_said" s_law_said ["way", "size", "creases"] f fd) (T : Txt mg) (Ex : Exs K mg) (C_places : Cal P w K mg base (L2.CX P w) 3 "places" s_places ["many", "folds"] (sp_places (adr K "NoFolds")))
    (C_cells_at : Cal P w K mg base (L2.CX P w) 4 "cells_at" s_cells_at ["many", "folds", "place"] (sp_cells_at (adr K "NoFolds"))) (C_stacks : Cal P w K mg base (L2.CX P w) 4 "stacks" s_stacks ["many", "folds"] (sp_stacks (adr K "NoFolds"))) :
    Cal P w K mg base CX0 5 "_law_said" s_law_said ["way", "size", "creases"] sp_said := by
  refine ⟨f, fd, o, ?_⟩
  refine Dok.calm o.F sc_law_said (fun vs H Q E h => ?_) (fun cdv A outer s H vs Q E hr h => ?_)
  · obtain ⟨a, y, m, fs, rfl, _⟩ := h
    rfl
  obtain ⟨a, y, m, fs, rfl, y0, y5, ea, k⟩ := h
  refine ⟨_, (pss_cons (ps_set (i := 3) sc_law_said.nd rfl (Or.inl rfl) pe_non)
    (pss_cons (ps_try_in (i := 4) (n := "e") rfl rfl rfl sc_law_said.nd rfl (by rfl) (.cons ⟨by rfl, by decide, .inl Ex.g_NoFolds⟩ (.cons ⟨by rfl, by decide, .inl Ex.g_NoText⟩ (.cons ⟨by rfl, by decide, .inl Ex.g_NoWish⟩ (.cons ⟨by rfl, by decide, .inl Ex.g_NoPlace⟩ (.cons ⟨by rfl, by decide, .inl Ex.g_NoCell⟩ (.cons ⟨by rfl, by decide, .inl Ex.g_Whole⟩ (.cons ⟨by rfl, by decide, .inl Ex.g_NoMark⟩ (.cons ⟨by rfl, by decide, .inl Ex.g_NoList⟩ (.cons ⟨by rfl, by decide, .inl Ex.g_Torn⟩ (.cons ⟨by rfl, by decide, .inl Ex.g_NoPlan⟩ (.cons ⟨by rfl, by decide, .inl Ex.g_TooMany⟩ .nil))))))))))) (by show 11 ≤ sizeLine; decide) takes0
      (fun W pn xe tk => (pss_one (ps_if (pt_cmpR op_eq (pv 0) pe_int (nomark _)) (pss_one (ps_expr (c_callW (g := @KW_places_0_folds_many Value) (gV := @KW_places_0_folds_many V) C_places (hr.mono (by omega)) tk (pk_cons (pv 2) (pk_cons (pv 1) pk_nil)) KW_places_0_folds_many_b KW_places_0_folds_many_r))) (pss_one (ps_if (pt_cmpR op_lt (pv 0) pe_int (nomark _)) (pss_one (ps_expr (c_callW (g := @KW_cells_at_0_place_folds_many Value) (gV := @KW_cells_at_0_place_folds_many V) C_cells_at (hr.mono (by omega)) tk (pk_cons (pe_ix (k_ixL (K := K) rfl) (pe_lst (pa_cons pe_int (pa_cons (pe_op op_pow pe_int pe_int) (pa_cons (pe_un un_neg pe_int) pa_nil)))) (pe_op op_sub (pv 0) pe_int) (fun _ _ => rfl)) (pk_cons (pv 2) (pk_cons (pv 1) pk_nil))) KW_cells_at_0_place_folds_many_b KW_cells_at_0_place_folds_many_r))) (pss_one (ps_expr (c_callW (g := @KW_stacks_0_folds_many Value) (gV := @KW_stacks_0_folds_many V) C_stacks (hr.mono (by omega)) tk (pk_cons (pv 2) (pk_cons (pv 1) pk_nil)) KW_stacks_0_folds_many_b KW_stacks_0_folds_many_r))))))))
      (fun a oe cls d pn _ _ => (pss_one (ps_set (i := 3) sc_law_said.nd rfl (Or.inl rfl) (pv 4)))))
    (pss_cons (ps_if (pt_cmpR op_isN (pv 3) pe_non (nomark _)) (pss_one (ps_ret pe_str)) pss_nil)
    (pss_cons (ps_if (pt_val (pe_callB (kc_isCT (K := K) rfl) (by rfl) T.isinstance (by decide +kernel) (pa_cons (pv 3) (pa_cons (pe_tup (pa_cons (pe_glob (v := .ref (adr K "NoText")) rfl Ex.g_NoText rfl) (pa_cons (pe_glob (v := .ref (adr K "NoWish")) rfl Ex.g_NoWish rfl) (pa_cons (pe_glob (v := .ref (adr K "NoPlace")) rfl Ex.g_NoPlace rfl) (pa_cons (pe_glob (v := .ref (adr K "NoCell")) rfl Ex.g_NoCell rfl) (pa_cons (pe_glob (v := .ref (adr K "Whole")) rfl Ex.g_Whole rfl) (pa_cons (pe_glob (v := .ref (adr K "NoMark")) rfl Ex.g_NoMark rfl) (pa_cons (pe_glob (v := .ref (adr K "NoList")) rfl Ex.g_NoList rfl) (pa_cons (pe_glob (v := .ref (adr K "Torn")) rfl Ex.g_Torn rfl) (pa_cons (pe_glob (v := .ref (adr K "NoPlan")) rfl Ex.g_NoPlan rfl) (pa_cons (pe_glob (v := .ref (adr K "TooMany")) rfl Ex.g_TooMany rfl) pa_nil))))))))))) pa_nil)))) (pss_one (ps_ret pe_str)) pss_nil)
    (pss_one (ps_ret (pe_ifExp (pt_val (pe_callB (kc_isC (K := K) rfl) (by rfl) T.isinstance (by decide +kernel) (pa_cons (pv 3) (pa_cons (pe_bltn (v := .ty "ValueError") (by rfl) T.ValueError (by decide +kernel) rfl) pa_nil)))) pe_str pe_str))))))), ?_⟩
  have ten : 10 ≤ sizeLine := by decide
  have kt : isF m fs = true → ∀ H', Same H H' → Q (.str "told") H' := fun e H' s => by
    have q := k H' s
    rw [e, if_pos rfl] at q
    exact q
  have kn : isF m fs = false → ∀ H', Same H H' → Q (.str "none") H' := fun e H' s => by
    have q := k H' s
    rw [e, if_neg Bool.false_ne_true] at q
    exact q
  by_cases c0 : y = 0
  · refine ⟨.int y, rfl, rfl, true, congrArg V.bl (decide_eq_true (congrArg V.int c0)), iteT ?_⟩
    refine ⟨.ref a, rfl, .int m, rfl, a, m, fs, rfl, ea, fun e => ⟨true, Ex.any, fun _ => ⟨rfl, fun x nx => ?_⟩, fun q => nomatch q⟩, fun e q H' nq s _ => ⟨.non, rfl, rfl, true, rfl, iteT (kt e H' s)⟩⟩
    refine ⟨.ref x, rfl, .ref x, rfl, rfl, false, rfl, iteF ⟨.ref x, rfl, ten, fun tp ntp => ?_⟩⟩; exact ⟨x, _, tp, _, _, false, rfl, (same_new ntp) _ _ upd_same, Ex.isx, upd_same, (.cons (.own _) (.cons (.own _) (.cons (.own _) (.cons (.own _) (.cons (.own _) (.cons (.own _) (.cons (.own _) (.cons (.own _) (.cons (.own _) (.cons (.own _) .nil)))))))))), Ex.others, false, rfl, iteF ⟨.ref x, rfl, x, _, .ty "ValueError", _, true, rfl, (same_new ntp) _ _ upd_same, Ex.isx, .ty _, Ex.k_val, true, rfl, iteT (kn e _ (((Same.refl H).trans (same_new nx)).trans (same_new ntp)))⟩⟩
  · refine ⟨.int y, rfl, rfl, false, congrArg V.bl (decide_eq_false (fun q => c0 (V.int.inj q))), iteF ?_⟩
    by_cases c4 : y < 4
    · refine ⟨.int y, rfl, y, 4, rfl, rfl, true, congrArg V.bl (decide_eq_true c4), iteT ?_⟩
      refine ⟨10, 29, rfl, rfl, ⟨by decide, by decide, by decide⟩, 1, rfl, (by show 3 ≤ sizeLine; decide), fun l nl => ?_⟩
      have s1 := same_new (o := .lst [.int 0, .int (10 ^ 29), .int (-1)]) nl
      obtain ⟨v, ev, mv⟩ := at_mem (xs := [.int 0, .int (10 ^ 29), .int (-1)]) (r := y - 1) (by omega) (by show y - 1 < 3; omega)
      obtain ⟨z, rfl⟩ : ∃ z, v = .int z := by
        simp only [List.mem_cons, List.not_mem_nil, or_false] at mv
        rcases mv with rfl | rfl | rfl <;> exact ⟨_, rfl⟩
      refine ⟨.int y, rfl, y, 1, rfl, rfl, l, _, y - 1, .int z, rfl, rfl, SqL.of upd_same, ev, ?_⟩
      refine ⟨.ref a, rfl, .int m, rfl, a, m, z, fs, rfl, s1 _ _ ea, fun e => ⟨true, Ex.any, fun _ => ⟨rfl, fun x nx => ?_⟩, fun q => nomatch q⟩, fun e q H' nq s _ => ⟨.non, rfl, rfl, true, rfl, iteT (kt e H' (s1.trans s))⟩⟩
      refine ⟨.ref x, rfl, .ref x, rfl, rfl, false, rfl, iteF ⟨.ref x, rfl, ten, fun tp ntp => ?_⟩⟩; exact ⟨x, _, tp, _, _, false, rfl, (same_new ntp) _ _ upd_same, Ex.isx, upd_same, (.cons (.own _) (.cons (.own _) (.cons (.own _) (.cons (.own _) (.cons (.own _) (.cons (.own _) (.cons (.own _) (.cons (.own _) (.cons (.own _) (.cons (.own _) .nil)))))))))), Ex.others, false, rfl, iteF ⟨.ref x, rfl, x, _, .ty "ValueError", _, true, rfl, (same_new ntp) _ _ upd_same, Ex.isx, .ty _, Ex.k_val, true, rfl, iteT (kn e _ (((s1).trans (same_new nx)).trans (same_new ntp)))⟩⟩
    · refine ⟨.int y, rfl, y, 4, rfl, rfl, false, congrArg V.bl (decide_eq_false c4), iteF ?_⟩
      refine ⟨.ref a, rfl, .int m, rfl, a, m, fs, rfl, ea, fun e => ⟨true, Ex.any, fun _ => ⟨rfl, fun x nx => ?_⟩, fun q => nomatch q⟩, fun e q H' rs mn mx nq s _ _ _ _ _ => ⟨.non, rfl, rfl, true, rfl, iteT (kt e H' s)⟩⟩
      refine ⟨.ref x, rfl, .ref x, rfl, rfl, false, rfl, iteF ⟨.ref x, rfl, ten, fun tp ntp => ?_⟩⟩; exact ⟨x, _, tp, _, _, false, rfl, (same_new ntp) _ _ upd_same, Ex.isx, upd_same, (.cons (.own _) (.cons (.own _) (.cons (.own _) (.cons (.own _) (.cons (.own _) (.cons (.own _) (.cons (.own _) (.cons (.own _) (.cons (.own _) (.cons (.own _) .nil)))))))))), Ex.others, false, rfl, iteF ⟨.ref x, rfl, x, _, .ty "ValueError", _, true, rfl, (same_new ntp) _ _ upd_same, Ex.isx, .ty _, Ex.k_val, true, rfl, iteT (kn e _ (((Same.refl H).trans (same_new nx)).trans (same_new ntp)))⟩⟩
end
abbrev s_law_right : Stmt := topS 29
theorem sc_law_right : FnScope ["size", "creases", "kept", "due", "told", "way", "words"] ["size", "creases"] (defScope s_law_right) := ⟨rfl, rfl, rfl, by decide +kernel, rfl, by decide +kernel, by decide +kernel⟩

section
variable {P : Program} {w : World} {K : PySem.W.Frag} {mg : Str → Option Value} {base : Heap}
def sp_right : Sp := fun vs H Q _ => ∃ (a : Addr) (m : Int) (fs : List Int), vs = [.int m, .ref a] ∧ H a = some (.lst (fs.map V.int)) ∧ fs.length ≤ 1000 ∧ ∀ H', Same H H' → Q (.bl true) H'
theorem ok_right {f : Addr} {fd : FuncData} (o : Own K mg "_law_right" s_law_right ["size", "creases"] f fd) (T : Txt mg) (C_is_folding : Cal P w K mg base CX0 2 "is_folding" s_is_folding ["many", "folds"] sp_is_folding)
    (C_law_is_folding : Cal P w K mg base CX0 1 "_law_is_folding" s_law_is_folding ["size", "creases"] sp_look) (C_law_said : Cal P w K mg base CX0 5 "_law_said" s_law_said ["way", "size", "creases"] sp_said) :
    Cal P w K mg base CX0 6 "_law_right" s_law_right ["size", "creases"] sp_right := by
  refine ⟨f, fd, o, ?_⟩
  refine Dok.calm o.F sc_law_right (fun vs H Q E h => ?_) (fun cdv A outer s H vs Q E hr h => ?_)
  · obtain ⟨a, m, fs, rfl, _⟩ := h
    rfl
  obtain ⟨a, m, fs, rfl, ea, hl, k⟩ := h
  refine ⟨_, (pss_cons (ps_set (i := 2) sc_law_right.nd rfl (Or.inl rfl) (pe_callTy call_list_of (by rfl) T.list (by decide +kernel) (pa_cons (pv 1) pa_nil)))
    (pss_cons (ps_set (i := 3) sc_law_right.nd rfl (Or.inl rfl) (c_call C_law_is_folding (hr.mono (by omega)) pass0 (pa_cons (pv 0) (pa_cons (pv 1) pa_nil))))
    (pss_cons (ps_set (i := 4) sc_law_right.nd rfl (Or.inl rfl) (c_call C_is_folding (hr.mono (by omega)) pass0 (pa_cons (pv 0) (pa_cons (pv 1) pa_nil))))
    (pss_cons (ps_if (pt_cmpR op_ne (pe_callB (kc_repr (K := K) rfl hr) (by rfl) T.repr (by decide +kernel) (pa_cons (pe_lst (pa_cons (pv 4) (pa_cons (c_callN (g := @KW_is_folding_0_folds_many Value) (gV := @KW_is_folding_0_folds_many V) C_is_folding (hr.mono (by omega)) pass0 (pk_cons (pv 1) (pk_cons (pv 0) pk_nil)) KW_is_folding_0_folds_many_b KW_is_folding_0_folds_many_r) pa_nil))) pa_nil)) (pe_callB (kc_repr (K := K) rfl hr) (by rfl) T.repr (by decide +kernel) (pa_cons (pe_lst (pa_cons (pv 3) (pa_cons (pv 3) pa_nil))) pa_nil)) (nomark _)) (pss_one (ps_ret pe_bl)) pss_nil)
    (pss_cons (ps_setLc (i := 6) (own := [("way", 5)]) (g := (gName 5)) (by rfl) sc_law_right.nd rfl rfl (sw_true rfl rfl rfl (by decide +kernel)) (pi_range1 rfl T.range (pa_cons pe_int pa_nil)) (blkOk_by (own := [("way", 5)]) (N := ["size", "creases", "kept", "due", "told", "way", "words"]) (sc := defScope s_law_right) (by decide +kernel)) (fun _ _ _ _ _ => (pg_name (i := 5) sc_law_right.nd rfl (Or.inl rfl))) (fun _ _ _ _ _ => pts_nil) (fun _ _ _ _ _ => (c_call C_law_said (hr.mono (by omega)) pass0 (pa_cons (pv 5) (pa_cons (pv 0) (pa_cons (pv 1) pa_nil))))))
    (pss_one (ps_ret (pe_and (pe_cmpR (k_eqD (K := K) rfl hr.r.units) (pv 6) (pe_op op_rep (pe_lst (pa_cons (pe_ix (k_ixL (K := K) rfl) (pe_lst (pa_cons pe_str (pa_cons pe_str pa_nil))) (pe_callTy call_int1 (by rfl) T.int (by decide +kernel) (pa_cons (pv 3) pa_nil)) (fun _ _ => rfl)) pa_nil)) pe_int) (nomark _)) (pe_one (pe_cmpR (k_eqD (K := K) rfl hr.r.units) (pv 1) (pv 2) (nomark _))))))))))), ?_⟩
  have two : 2 ≤ sizeLine := by decide
  -- kept, due, told
  refine ⟨.ref a, rfl, a, fs.map V.int, rfl, .inl (SqL.of ea), fun kp nk => ?_⟩
  have s1 := same_new (o := .lst (fs.map V.int)) nk
  refine ⟨.int m, rfl, .ref a, rfl, a, m, fs, rfl, s1 _ _ ea, hl, fun H2 s2 => ?_⟩
  have s12 := s1.trans s2
  have ek := s2 _ _ (upd_same (H := H) (a := kp) (o := .lst (fs.map V.int)))
  refine ⟨.int m, rfl, .ref a, rfl, a, m, fs, rfl, s12 _ _ ea, ?_⟩
  have R2 : (PyData.list [.bool (isF m fs), .bool (isF m fs)]).showable = true ∧ SeqAt.shaped (PyData.list [.bool (isF m fs), .bool (isF m fs)]) = true ∧ (PyData.list [.bool (isF m fs), .bool (isF m fs)]).shown.length ≤ sizeLine :=
    repr_facts (n := 1) (prt_list fun d hd => by
      simp only [List.mem_cons, List.not_mem_nil, or_false] at hd
      rcases hd with rfl | rfl <;> exact True.intro) (by show (5 + 2 + (5 + 2 + 0)) + 2 ≤ 10000000; decide)
  refine ⟨.bl (isF m fs), rfl, .ref a, rfl, .int m, rfl, a, m, fs, rfl, s12 _ _ ea, two, fun u1 n1 => ?_⟩
  have s3 := same_new (o := .lst [.bl (isF m fs), .bl (isF m fs)]) n1
  refine ⟨u1, .list [.bool (isF m fs), .bool (isF m fs)], rfl, (Dt.lst upd_same (.cons (.bl _) (.one (.bl _)))).dp, R2.1, R2.2.1, R2.2.2, .bl (isF m fs), rfl, .bl (isF m fs), rfl, two, fun u2 n2 => ?_⟩
  have s4 := s3.trans (same_new (o := .lst [.bl (isF m fs), .bl (isF m fs)]) n2)
  refine ⟨u2, .list [.bool (isF m fs), .bool (isF m fs)], rfl, (Dt.lst upd_same (.cons (.bl _) (.one (.bl _)))).dp, R2.1, R2.2.1, R2.2.2, rfl, _, rfl, iteNS rfl ?_⟩
  have s14 := s12.trans s4
  have ek4 := s4 _ _ ek
  generalize upd (upd H2 u1 (.lst [.bl (isF m fs), .bl (isF m fs)])) u2 (.lst [.bl (isF m fs), .bl (isF m fs)]) = H4 at s14 ek4
  have ea4 := s14 _ _ ea
  -- words
  refine ⟨5, rfl, by decide, by decide, fun D hD => ?_⟩
  refine lc_it walk_range (fun i H' => Same H4 H' ∧ H' D = some (.lst (List.replicate i (.str (if isF m fs = true then "told" else "none"))))) ⟨same_new hD, upd_same⟩ (fun _ _ _ _ => True.intro) ?_ ?_
  · rintro i x H5 H5' hi ⟨s5, eD⟩ ⟨rfl, rfl⟩
    have hi5 : i < 5 := hi
    refine ⟨rfl, tyes (iteT ?_)⟩
    refine ⟨.int (0 + i), rfl, .int m, rfl, .ref a, rfl, a, 0 + i, m, fs, rfl, by omega, by omega, s5 _ _ ea4, fun H6 s6 => ⟨_, s6 _ _ eD, ?_, same_mut (s5.trans s6) hD, ?_⟩⟩
    · rw [List.length_replicate]
      exact long_ok (by omega)
    · rw [upd_same, List.replicate_succ']
  rintro H5 ⟨s5, eD⟩
  have eD5 : H5 D = some (.lst (List.replicate 5 (.str (if isF m fs = true then "told" else "none")))) := eD
  refine ⟨.ref D, rfl, two, fun l nl => ⟨.bl (isF m fs), rfl, .inr ⟨isF m fs, rfl, ?_⟩⟩⟩
  have s6 := same_new (o := .lst [.str "none", .str "told"]) nl
  have ix : atI [V.str "none", V.str "told"] (if isF m fs = true then 1 else 0) = some (.str (if isF m fs = true then "told" else "none")) := by
    cases isF m fs <;> rfl
  refine ⟨l, _, _, _, rfl, rfl, SqL.of upd_same, ix, (by show 1 ≤ sizeLine; decide), fun l2 nl2 => ?_⟩
  have s7 := s6.trans (same_new (o := .lst [.str (if isF m fs = true then "told" else "none")]) nl2)
  refine ⟨l2, 5, _, rfl, rfl, upd_same, by decide, by decide, (by show 1 * 5 ≤ sizeLine; decide), fun l3 nl3 => ?_⟩
  have s8 := s7.trans (same_new (o := .lst (List.replicate (Int.toNat 5) [V.str (if isF m fs = true then "told" else "none")]).flatten) nl3)
  have shw : shp 1 (.list ((List.replicate 5 (if isF m fs = true then ("told" : Str) else "none")).map PyData.str)) := shp_list fun d hd => by
    obtain ⟨w, hw, rfl⟩ := List.mem_map.mp hd
    rw [List.eq_of_mem_replicate hw]
    show PyData.strOk _ = true
    cases isF m fs <;> decide +kernel
  refine eqD (d := .list ((List.replicate 5 (if isF m fs = true then ("told" : Str) else "none")).map PyData.str)) (.lst (s8 _ _ eD5) (dt_strs (List.replicate 5 _))) (.lst upd_same (dt_strs (List.replicate 5 _))) shw ⟨true, rfl, iteT ?_⟩
  have s58 := s5.trans s8
  exact ⟨.ref a, rfl, .ref kp, rfl, eqD (dt_intsL (s58 _ _ ea4)) (dt_intsL (s58 _ _ ek4)) (shp_ints fs) (k _ (s14.trans s58))⟩
end
abbrev s_law : Stmt := topS 30
theorem sc_law : FnScope ["script", "k", "spool", "size", "creases", "turn", "grown", "other"] ["script"] (defScope s_law) := ⟨rfl, rfl, rfl, by decide +kernel, rfl, by decide +kernel, by decide +kernel⟩

section
variable {P : Program} {w : World} {K : PySem.W.Frag} {mg : Str → Option Value} {base : Heap}
def sp_law (K : PySem.W.Frag) : Sp := fun vs H Q _ => ∃ (a : Addr) (ns : List Int), vs = [.ref a] ∧ SqL K H a (ns.map V.int) ∧ ns.length ≤ 63 ∧ ∀ H', Q (.bl true) H'
theorem ok_law {f : Addr} {fd : FuncData} (o : Own K mg "law" s_law ["script"] f fd) (T : Txt mg) (C_law_spool : Cal P w K mg base CX0 1 "_law_spool" s_law_spool ["script", "k"] (sp_spool K)) (C_law_reel : Cal P w K mg base CX0 1 "_law_reel" s_law_reel ["spool", "size"] sp_pull)
    (C_law_size : Cal P w K mg base CX0 2 "_law_size" s_law_size ["spool"] sp_size) (C_law_folds : Cal P w K mg base CX0 2 "_law_folds" s_law_folds ["spool", "size"] sp_folds) (C_law_is_folding : Cal P w K mg base CX0 1 "_law_is_folding" s_law_is_folding ["size", "creases"] sp_look)
    (C_law_bent : Cal P w K mg base CX0 2 "_law_bent" s_law_bent ["spool", "size", "creases"] sp_bent) (C_law_right : Cal P w K mg base CX0 6 "_law_right" s_law_right ["size", "creases"] sp_right) : Dok P w K mg base CX0 7 f fd ["script"] (sp_law K) := by
  refine Dok.calm o.F sc_law (fun vs H Q E h => ?_) (fun cdv A outer s H vs Q E hr h => ?_)
  · obtain ⟨a, ns, rfl, _⟩ := h
    rfl
  obtain ⟨a, ns, rfl, hS, hl, k⟩ := h
  refine ⟨_, (pss_cons (ps_for PassesOwn.never rfl (pi_range1 rfl T.range (pa_cons (pe_callB (call_max2 rfl) (by rfl) T.max (by decide +kernel) (pa_cons pe_int (pa_cons (pe_callB (call_min2 rfl) (by rfl) T.min (by decide +kernel) (pa_cons pe_int (pa_cons (pe_callB (kc_len (K := K) rfl) (by rfl) T.len (by decide +kernel) (pa_cons (pv 0) pa_nil)) pa_nil))) pa_nil))) pa_nil)) (pg_name (i := 1) sc_law.nd rfl (Or.inl rfl)) (pss_cons (ps_set (i := 2) sc_law.nd rfl (Or.inl rfl) (c_call C_law_spool (hr.mono (by omega)) pass0 (pa_cons (pv 0) (pa_cons (pv 1) pa_nil))))
    (pss_cons (ps_set (i := 3) sc_law.nd rfl (Or.inl rfl) (c_call C_law_size (hr.mono (by omega)) pass0 (pa_cons (pv 2) pa_nil)))
    (pss_cons (ps_set (i := 4) sc_law.nd rfl (Or.inl rfl) (c_call C_law_folds (hr.mono (by omega)) pass0 (pa_cons (pv 2) (pa_cons (pv 3) pa_nil))))
    (pss_cons (ps_if (PW.pt (pw_or (pt_not (pt_val (c_call C_law_right (hr.mono (by omega)) pass0 (pa_cons (pv 3) (pa_cons (pv 4) pa_nil))))) (pw_or1 (pt_not (pt_val (c_call C_law_is_folding (hr.mono (by omega)) pass0 (pa_cons (pv 3) (pa_cons (pv 4) pa_nil)))))))) (pss_one (ps_ret pe_bl)) pss_nil)
    (pss_cons (ps_for PassesOwn.never rfl (pi_range1 rfl T.range (pa_cons pe_int pa_nil)) (pg_name (i := 5) sc_law.nd rfl (Or.inl rfl)) (pss_one (ps_if (pt_not (pt_val (c_call C_law_right (hr.mono (by omega)) pass0 (pa_cons (pv 3) (pa_cons (c_call C_law_bent (hr.mono (by omega)) pass0 (pa_cons (pv 2) (pa_cons (pv 3) (pa_cons (pv 4) pa_nil)))) pa_nil))))) (pss_one (ps_ret pe_bl)) pss_nil)))
    (pss_cons (ps_set (i := 6) sc_law.nd rfl (Or.inl rfl) (pe_callTy call_list_of (by rfl) T.list (by decide +kernel) (pa_cons (pv 4) pa_nil)))
    (pss_cons (ps_expr (pe_bm PySem.F.plainAttrs_list PySem.F.slot_list_append PySem.F.type_list_append mt_append (pv 6) (pa_cons (pe_ix (k_ixL (K := K) rfl) (pe_lst (pa_cons (pe_op op_sub (pv 3) pe_int) (pa_cons (pe_un un_neg pe_int) (pa_cons pe_int pa_nil)))) (c_call C_law_reel (hr.mono (by omega)) pass0 (pa_cons (pv 2) (pa_cons pe_int pa_nil))) (fun _ _ => rfl)) pa_nil)))
    (pss_cons (ps_if (pt_not (pt_val (c_call C_law_right (hr.mono (by omega)) pass0 (pa_cons (pv 3) (pa_cons (pv 6) pa_nil))))) (pss_one (ps_ret pe_bl)) pss_nil)
    (pss_cons (ps_expr (pe_bm0 PySem.F.plainAttrs_list PySem.F.slot_list_pop PySem.F.type_list_pop mt_pop (pv 6)))
    (pss_cons (ps_for PassesOwn.never rfl (pi_list (pe_lst (pa_cons pe_int (pa_cons pe_int (pa_cons pe_int (pa_cons pe_int (pa_cons (pe_un un_neg pe_int) (pa_cons (pe_op op_pow pe_int pe_int) (pa_cons (pe_op op_add pe_int (c_call C_law_reel (hr.mono (by omega)) pass0 (pa_cons (pv 2) (pa_cons pe_int pa_nil)))) (pa_cons (pe_op op_sub pe_int (c_call C_law_reel (hr.mono (by omega)) pass0 (pa_cons (pv 2) (pa_cons pe_int pa_nil)))) pa_nil)))))))))) (pg_name (i := 7) sc_law.nd rfl (Or.inl rfl)) (pss_one (ps_if (PW.pt (pw_or (pt_not (pt_val (c_call C_law_right (hr.mono (by omega)) pass0 (pa_cons (pv 7) (pa_cons (pv 6) pa_nil))))) (pw_or1 (pt_not (pt_val (c_call C_law_right (hr.mono (by omega)) pass0 (pa_cons (pv 7) (pa_cons (pe_lst pa_nil) pa_nil)))))))) (pss_one (ps_ret pe_bl)) pss_nil)))
    (pss_one (ps_if (pt_not (pt_val (c_call C_law_right (hr.mono (by omega)) pass0 (pa_cons (pv 3) (pa_cons (pv 6) pa_nil))))) (pss_one (ps_ret pe_bl)) pss_nil)))))))))))))
    (pss_one (ps_ret pe_bl))), ?_⟩
  refine ⟨.ref a, rfl, a, _, rfl, .inl hS, _, _, rfl, _, _, rfl, _, rfl, ?_, ?_, ?_⟩
  · split <;> split <;> omega
  · rw [List.length_map]
    split <;> split <;> omega
  have top : ∀ {x : Int}, x = (if (if ((ns.map V.int).length : Int) < 10 then ((ns.map V.int).length : Int) else 10) > 1 then (if ((ns.map V.int).length : Int) < 10 then ((ns.map V.int).length : Int) else 10) else 1) → x.toNat ≤ 11 := by
    intro x e
    rw [e]
    split <;> split <;> omega
  refine for_it walk_range (fun i σ H' => ∃ v1 v2 v3 v4 v5 v6 v7 : Option V, σ = [some (.ref a), v1, v2, v3, v4, v5, v6, v7] ∧ Same H H') ⟨none, none, none, none, none, none, none, rfl, Same.refl H⟩ (fun _ _ _ _ _ => True.intro) ?_ ?_
  · rintro i x σ H1 H1' hi ⟨v1, v2, v3, v4, v5, v6, v7, rfl, s1⟩ ⟨rfl, rfl⟩
    have hi6 : i < 11 := Nat.lt_of_lt_of_le hi (top rfl)
    refine ⟨.ref a, rfl, .int (0 + i), rfl, a, ns, 0 + i, rfl, s1.seq hS, by omega, by omega, fun p H2 hp s2 e2 => ?_⟩
    have hpH : H p = none := s1.free hp
    have s02 := s1.trans s2
    refine ⟨.ref p, rfl, p, 1000000, rfl, e2, by omega, fun m H3 s3 m1 m2 => ?_⟩
    refine ⟨.ref p, rfl, .int m, rfl, p, m, _, rfl, s3.b, by omega, m1, m2, fun q H4 n4 fs hn4 s4 nq eq hF => ?_⟩
    obtain ⟨_, _, hlf⟩ := isF_len hF
    have nqH : H q = none := s02.free (s3.free nq)
    have s04 := same_old s02 (s3.trans s4) hpH
    -- the folding itself
    refine ⟨.int m, rfl, .ref q, rfl, q, m, fs, rfl, eq, by omega, fun H5 s5 => ⟨true, rfl, iteF ?_⟩⟩
    have eq5 := s5 _ _ eq
    refine ⟨.int m, rfl, .ref q, rfl, q, m, fs, rfl, eq5, by omega, fun H6 s6 => ⟨true, congrArg V.bl hF, iteF ?_⟩⟩
    have s56 := s5.trans s6
    have hp6 := s56 _ _ s4.b
    have eq6 := s6 _ _ eq5
    have s06 := s04.trans s56
    have hn6 : 999000 ≤ n4 := by omega
    -- bent
    refine ⟨8, rfl, by decide, by decide, ?_⟩
    refine for_it walk_range (fun j σ H' => ∃ (v5 v6 v7 : Option V) (n : Nat), σ = [some (.ref a), some (.int (0 + i)), some (.ref p), some (.int m), some (.ref q), v5, v6, v7] ∧ Sr p n4 n H6 H' ∧ n4 ≤ n + 8 * j) ⟨v5, v6, v7, n4, rfl, Sr.refl hp6, by omega⟩ (fun _ _ _ _ _ => True.intro) ?_ ?_
    · rintro j y σ H7 H7' hj ⟨v5, v6, v7, n, rfl, s7, hn⟩ ⟨rfl, rfl⟩
      have hj8 : j < 8 := hj
      refine ⟨.int m, rfl, .ref p, rfl, .int m, rfl, .ref q, rfl, p, q, m, fs, n, rfl, s7.b, by omega, m1, m2, s7.lst eq6, hlf, fun H8 n' b gs hn' s8 eb lb => ?_⟩
      refine ⟨b, m, gs, rfl, eb, by omega, fun H9 s9 => ⟨true, rfl, iteF ?_⟩⟩
      exact ⟨_, _, _, _, rfl, (s7.trans s8).then s9, by omega⟩
    · rintro σ H7 ⟨v5, v6, v7, n, rfl, s7, hn⟩
      have hn8 : n4 ≤ n + 8 * 8 := hn
      have eq7 := s7.lst eq6
      -- grown
      refine ⟨.ref q, rfl, q, _, rfl, .inl (SqL.of eq7), fun gr ngr => ?_⟩
      have ngH : H gr = none := s06.free (s7.free ngr)
      have s8 := s7.new (o := .lst (fs.map V.int)) ngr
      have egr := upd_same (H := H7) (a := gr) (o := .lst (fs.map V.int))
      have ngr6 : H6 gr = none := s7.free ngr
      generalize upd H7 gr (.lst (fs.map V.int)) = H8 at s8 egr
      refine ⟨.ref gr, rfl, .inl ⟨rfl, _, SqL.of egr⟩, .int m, rfl, m, 1, rfl, rfl, 1, rfl, (by show 3 ≤ sizeLine; decide), fun l nl => ?_⟩
      have s9 := s8.new (o := .lst [.int (m - 1), .int (-1), .int 0]) nl
      have egr9 := (same_new (o := .lst [.int (m - 1), .int (-1), .int 0]) nl) _ _ egr
      refine ⟨.ref p, rfl, p, 3, n, rfl, s9.b, by omega, by decide, by decide, fun r H9 s10 r0 r1 => ?_⟩
      obtain ⟨v, ev, mv⟩ := at_mem (xs := [.int (m - 1), .int (-1), .int 0]) r0 r1
      obtain ⟨z, rfl⟩ : ∃ z, v = .int z := by
        simp only [List.mem_cons, List.not_mem_nil, or_false] at mv
        rcases mv with rfl | rfl | rfl <;> exact ⟨_, rfl⟩
      refine ⟨l, _, r, .int z, rfl, rfl, SqL.of (s10.lst upd_same), ev, gr, _, _, rfl, rfl, s10.lst egr9, by rw [List.length_map]; exact long_ok (by omega), ?_⟩
      have s11 := (s9.trans s10).mut (o := .lst (fs.map V.int ++ [.int z])) ngr6
      have eg : upd H9 gr (.lst (fs.map V.int ++ [.int z])) gr = some (.lst ((fs ++ [z]).map V.int)) := by
        rw [upd_same, List.map_append]
        rfl
      generalize upd H9 gr (.lst (fs.map V.int ++ [.int z])) = H10 at s11 eg
      refine ⟨.int m, rfl, .ref gr, rfl, gr, m, fs ++ [z], rfl, eg, by rw [List.length_append]; show _ + 1 ≤ 1000; omega, fun H11 s12 => ⟨true, rfl, iteF ?_⟩⟩
      -- grown.pop()
      have eg11 := s12 _ _ eg
      have la : ((fs ++ [z]).map V.int)[((fs ++ [z]).map V.int).length - 1]? = some (.int z) := by simp
      refine ⟨.ref gr, rfl, .inl ⟨rfl, _, SqL.of eg11⟩, gr, _, .int z, rfl, rfl, eg11, la, ?_⟩
      have dl : ((fs ++ [z]).map V.int).dropLast = fs.map V.int := by
        rw [List.map_append]
        exact List.dropLast_concat
      rw [dl]
      have s13 := (s11.then s12).mut (o := .lst (fs.map V.int)) ngr6
      have e13 := upd_same (H := H11) (a := gr) (o := .lst (fs.map V.int))
      generalize upd H11 gr (.lst (fs.map V.int)) = H12 at s13 e13
      -- others
      refine ⟨5, rfl, 10, 29, rfl, rfl, ⟨by decide, by decide, by decide⟩, .ref p, rfl, p, 99, n - 1, rfl, s13.b, by omega, by decide, by decide, fun ra H13 s14 a0 a1 => ⟨201, ra, rfl, rfl, ?_⟩⟩
      have s134 := s13.trans s14
      refine ⟨.ref p, rfl, p, 99, n - 1 - 1, rfl, s134.b, by omega, by decide, by decide, fun rb H14 s15 b0 b1 => ⟨0, rb, rfl, rfl, (by show 8 ≤ sizeLine; decide), fun lo nlo => ?_⟩⟩
      have s135 := s134.trans s15
      have e14 := (s14.trans s15).lst e13
      have s16 := same_new (o := .lst (([1, 200, 0, 201, -5, 10 ^ 29, 201 + ra, 0 - rb] : List Int).map V.int)) nlo
      have elo : upd H14 lo (.lst (([1, 200, 0, 201, -5, 10 ^ 29, 201 + ra, 0 - rb] : List Int).map V.int)) lo = some (.lst (([1, 200, 0, 201, -5, 10 ^ 29, 201 + ra, 0 - rb] : List Int).map V.int)) := upd_same
      refine ⟨lo, rfl, ⟨_, SqL.of upd_same⟩, ?_⟩
      have s0E : Same H (upd H14 lo (.lst (([1, 200, 0, 201, -5, 10 ^ 29, 201 + ra, 0 - rb] : List Int).map V.int))) := (same_old s06 s135 hpH).trans s16
      have e16 := s16 _ _ e14
      refine for_it (walk_list (xs := ([1, 200, 0, 201, -5, 10 ^ 29, 201 + ra, 0 - rb] : List Int).map V.int)) (fun j σ H' => ∃ v7 : Option V, σ = [some (.ref a), some (.int (0 + i)), some (.ref p), some (.int m), some (.ref q), v5, some (.ref gr), v7] ∧ Same (upd H14 lo (.lst (([1, 200, 0, 201, -5, 10 ^ 29, 201 + ra, 0 - rb] : List Int).map V.int))) H') ⟨v7, rfl, Same.refl _⟩ (fun j σ H' _ ⟨_, _, e⟩ => SqL.of (e _ _ elo)) ?_ ?_
      · rintro j y σ H15 H15' hj ⟨v7, rfl, s17⟩ ⟨rfl, ey⟩
        obtain ⟨z', rfl⟩ : ∃ z', y = .int z' := by
          rw [List.getElem?_map] at ey
          cases e : ([1, 200, 0, 201, -5, 10 ^ 29, 201 + ra, 0 - rb] : List Int)[j]? with
          | none => rw [e] at ey; cases ey
          | some z' => rw [e] at ey; exact ⟨z', (Option.some.inj ey).symm⟩
        refine ⟨.int z', rfl, .ref gr, rfl, gr, z', fs, rfl, s17 _ _ e16, by omega, fun Ha sa => ⟨true, rfl, iteF ?_⟩⟩
        refine ⟨.int z', rfl, Nat.zero_le _, fun u nu => ?_⟩
        refine ⟨u, z', [], rfl, upd_same, Nat.zero_le _, fun Hb sb => ⟨true, rfl, iteF ?_⟩⟩
        exact ⟨_, rfl, (s17.trans sa).trans ((same_new nu).trans sb)⟩
      · rintro σ H15 ⟨v7, rfl, s17⟩
        refine ⟨.int m, rfl, .ref gr, rfl, gr, m, fs, rfl, s17 _ _ e16, by omega, fun Hc sc => ⟨true, rfl, iteF ?_⟩⟩
        exact ⟨_, _, _, _, _, _, _, rfl, (s0E.trans s17).trans sc⟩
  · rintro σ H1 ⟨v1, v2, v3, v4, v5, v6, v7, rfl, s1⟩
    exact k _
end
theorem all_mk {l : PySem.W.OpenLaw} {w : World} {K : PySem.W.Frag} {h : Heap} {mg : Str → Option Value} {fa : Addr} (X : K.In h) (G : h.Ns mainGlobals mg) (hfa : mg "law" = some (.ref fa))
    {f1 : Addr} {od1 an1 : Option Addr} {sl1 : Array (Option Value)} {oc1 kV1 dc1 pm1 cd1 ct1 : Value}
    {f2 : Addr} {od2 an2 : Option Addr} {sl2 : Array (Option Value)} {oc2 kV2 dc2 pm2 cd2 ct2 : Value}
    {f3 : Addr} {od3 an3 : Option Addr} {sl3 : Array (Option Value)} {oc3 kV3 dc3 pm3 cd3 ct3 : Value}
    {f4 : Addr} {od4 an4 : Option Addr} {sl4 : Array (Option Value)} {oc4 kV4 dc4 pm4 cd4 ct4 : Value}
    {f5 : Addr} {od5 an5 : Option Addr} {sl5 : Array (Option Value)} {oc5 kV5 dc5 pm5 cd5 ct5 : Value}
    {f6 : Addr} {od6 an6 : Option Addr} {sl6 : Array (Option Value)} {oc6 kV6 dc6 pm6 cd6 ct6 : Value}
    {f7 : Addr} {od7 an7 : Option Addr} {sl7 : Array (Option Value)} {oc7 kV7 dc7 pm7 cd7 ct7 : Value}
    {f8 : Addr} {od8 an8 : Option Addr} {sl8 : Array (Option Value)} {oc8 kV8 dc8 pm8 cd8 ct8 : Value}
    {f9 : Addr} {od9 an9 : Option Addr} {sl9 : Array (Option Value)} {oc9 kV9 dc9 pm9 cd9 ct9 : Value}
    {f10 : Addr} {od10 an10 : Option Addr} {sl10 : Array (Option Value)} {oc10 kV10 dc10 pm10 cd10 ct10 : Value}
    {f11 : Addr} {od11 an11 : Option Addr} {sl11 : Array (Option Value)} {oc11 kV11 dc11 pm11 cd11 ct11 : Value}
    {f12 : Addr} {od12 an12 : Option Addr} {sl12 : Array (Option Value)} {oc12 kV12 dc12 pm12 cd12 ct12 : Value}
    {f13 : Addr} {od13 an13 : Option Addr} {sl13 : Array (Option Value)} {oc13 kV13 dc13 pm13 cd13 ct13 : Value}
    {f14 : Addr} {od14 an14 : Option Addr} {sl14 : Array (Option Value)} {oc14 kV14 dc14 pm14 cd14 ct14 : Value}
    {f15 : Addr} {od15 an15 : Option Addr} {sl15 : Array (Option Value)} {oc15 kV15 dc15 pm15 cd15 ct15 : Value}
    {t_MOST_CELLS : Tok}
    {C_NoFolds C_NoText C_NoWish C_NoPlace C_NoCell C_Whole C_NoMark C_NoList C_Torn C_NoPlan C_TooMany : Addr}
    (a1 : PySem.W.nsIn K mainGlobals "is_rising" = some (some (.ref f1)))
    (l1 : K.lookup f1 = some ⟨oc1, od1, .func (PySem.W.fnOf "is_rising" "is_rising" (defArgs s_is_rising) (defBody s_is_rising) (defScope s_is_rising) .none kV1 dc1 pm1 an1 cd1 ct1), sl1⟩)
    (c1 : PySem.W.codeIn K cd1 "is_rising" = true)
    (k1 : PySem.W.keepIn K (.ref f1) = true)
    (a2 : PySem.W.nsIn K mainGlobals "is_folding" = some (some (.ref f2)))
    (l2 : K.lookup f2 = some ⟨oc2, od2, .func (PySem.W.fnOf "is_folding" "is_folding" (defArgs s_is_folding) (defBody s_is_folding) (defScope s_is_folding) .none kV2 dc2 pm2 an2 cd2 ct2), sl2⟩)
    (c2 : PySem.W.codeIn K cd2 "is_folding" = true)
    (k2 : PySem.W.keepIn K (.ref f2) = true)
    (a3 : PySem.W.nsIn K mainGlobals "places" = some (some (.ref f3)))
    (l3 : K.lookup f3 = some ⟨oc3, od3, .func (PySem.W.fnOf "places" "places" (defArgs s_places) (defBody s_places) (defScope s_places) .none kV3 dc3 pm3 an3 cd3 ct3), sl3⟩)
    (c3 : PySem.W.codeIn K cd3 "places" = true)
    (k3 : PySem.W.keepIn K (.ref f3) = true)
    (a4 : PySem.W.nsIn K mainGlobals "cells_at" = some (some (.ref f4)))
    (l4 : K.lookup f4 = some ⟨oc4, od4, .func (PySem.W.fnOf "cells_at" "cells_at" (defArgs s_cells_at) (defBody s_cells_at) (defScope s_cells_at) .none kV4 dc4 pm4 an4 cd4 ct4), sl4⟩)
    (c4 : PySem.W.codeIn K cd4 "cells_at" = true)
    (k4 : PySem.W.keepIn K (.ref f4) = true)
    (a5 : PySem.W.nsIn K mainGlobals "stacks" = some (some (.ref f5)))
    (l5 : K.lookup f5 = some ⟨oc5, od5, .func (PySem.W.fnOf "stacks" "stacks" (defArgs s_stacks) (defBody s_stacks) (defScope s_stacks) .none kV5 dc5 pm5 an5 cd5 ct5), sl5⟩)
    (c5 : PySem.W.codeIn K cd5 "stacks" = true)
    (k5 : PySem.W.keepIn K (.ref f5) = true)
    (a6 : PySem.W.nsIn K mainGlobals "walked" = some (some (.ref f6)))
    (l6 : K.lookup f6 = some ⟨oc6, od6, .func (PySem.W.fnOf "walked" "walked" (defArgs s_walked) (defBody s_walked) (defScope s_walked) .none kV6 dc6 pm6 an6 cd6 ct6), sl6⟩)
    (c6 : PySem.W.codeIn K cd6 "walked" = true)
    (k6 : PySem.W.keepIn K (.ref f6) = true)
    (a7 : PySem.W.nsIn K mainGlobals "_law_spool" = some (some (.ref f7)))
    (l7 : K.lookup f7 = some ⟨oc7, od7, .func (PySem.W.fnOf "_law_spool" "_law_spool" (defArgs s_law_spool) (defBody s_law_spool) (defScope s_law_spool) .none kV7 dc7 pm7 an7 cd7 ct7), sl7⟩)
    (c7 : PySem.W.codeIn K cd7 "_law_spool" = true)
    (k7 : PySem.W.keepIn K (.ref f7) = true)
    (a8 : PySem.W.nsIn K mainGlobals "_law_reel" = some (some (.ref f8)))
    (l8 : K.lookup f8 = some ⟨oc8, od8, .func (PySem.W.fnOf "_law_reel" "_law_reel" (defArgs s_law_reel) (defBody s_law_reel) (defScope s_law_reel) .none kV8 dc8 pm8 an8 cd8 ct8), sl8⟩)
    (c8 : PySem.W.codeIn K cd8 "_law_reel" = true)
    (k8 : PySem.W.keepIn K (.ref f8) = true)
    (a9 : PySem.W.nsIn K mainGlobals "_law_size" = some (some (.ref f9)))
    (l9 : K.lookup f9 = some ⟨oc9, od9, .func (PySem.W.fnOf "_law_size" "_law_size" (defArgs s_law_size) (defBody s_law_size) (defScope s_law_size) .none kV9 dc9 pm9 an9 cd9 ct9), sl9⟩)
    (c9 : PySem.W.codeIn K cd9 "_law_size" = true)
    (k9 : PySem.W.keepIn K (.ref f9) = true)
    (a10 : PySem.W.nsIn K mainGlobals "_law_folds" = some (some (.ref f10)))
    (l10 : K.lookup f10 = some ⟨oc10, od10, .func (PySem.W.fnOf "_law_folds" "_law_folds" (defArgs s_law_folds) (defBody s_law_folds) (defScope s_law_folds) .none kV10 dc10 pm10 an10 cd10 ct10), sl10⟩)
    (c10 : PySem.W.codeIn K cd10 "_law_folds" = true)
    (k10 : PySem.W.keepIn K (.ref f10) = true)
    (a11 : PySem.W.nsIn K mainGlobals "_law_is_folding" = some (some (.ref f11)))
    (l11 : K.lookup f11 = some ⟨oc11, od11, .func (PySem.W.fnOf "_law_is_folding" "_law_is_folding" (defArgs s_law_is_folding) (defBody s_law_is_folding) (defScope s_law_is_folding) .none kV11 dc11 pm11 an11 cd11 ct11), sl11⟩)
    (c11 : PySem.W.codeIn K cd11 "_law_is_folding" = true)
    (k11 : PySem.W.keepIn K (.ref f11) = true)
    (a12 : PySem.W.nsIn K mainGlobals "_law_bent" = some (some (.ref f12)))
    (l12 : K.lookup f12 = some ⟨oc12, od12, .func (PySem.W.fnOf "_law_bent" "_law_bent" (defArgs s_law_bent) (defBody s_law_bent) (defScope s_law_bent) .none kV12 dc12 pm12 an12 cd12 ct12), sl12⟩)
    (c12 : PySem.W.codeIn K cd12 "_law_bent" = true)
    (k12 : PySem.W.keepIn K (.ref f12) = true)
    (a13 : PySem.W.nsIn K mainGlobals "_law_said" = some (some (.ref f13)))
    (l13 : K.lookup f13 = some ⟨oc13, od13, .func (PySem.W.fnOf "_law_said" "_law_said" (defArgs s_law_said) (defBody s_law_said) (defScope s_law_said) .none kV13 dc13 pm13 an13 cd13 ct13), sl13⟩)
    (c13 : PySem.W.codeIn K cd13 "_law_said" = true)
    (k13 : PySem.W.keepIn K (.ref f13) = true)
    (a14 : PySem.W.nsIn K mainGlobals "_law_right" = some (some (.ref f14)))
    (l14 : K.lookup f14 = some ⟨oc14, od14, .func (PySem.W.fnOf "_law_right" "_law_right" (defArgs s_law_right) (defBody s_law_right) (defScope s_law_right) .none kV14 dc14 pm14 an14 cd14 ct14), sl14⟩)
    (c14 : PySem.W.codeIn K cd14 "_law_right" = true)
    (k14 : PySem.W.keepIn K (.ref f14) = true)
    (a15 : PySem.W.nsIn K mainGlobals "law" = some (some (.ref f15)))
    (l15 : K.lookup f15 = some ⟨oc15, od15, .func (PySem.W.fnOf "law" "law" (defArgs s_law) (defBody s_law) (defScope s_law) .none kV15 dc15 pm15 an15 cd15 ct15), sl15⟩)
    (c15 : PySem.W.codeIn K cd15 "law" = true)
    (k15 : PySem.W.keepIn K (.ref f15) = true)
    (z_ValueError : PySem.W.nsIn K mainGlobals "ValueError" = some none)
    (z_abs : PySem.W.nsIn K mainGlobals "abs" = some none)
    (z_enumerate : PySem.W.nsIn K mainGlobals "enumerate" = some none)
    (z_int : PySem.W.nsIn K mainGlobals "int" = some none)
    (z_isinstance : PySem.W.nsIn K mainGlobals "isinstance" = some none)
    (z_len : PySem.W.nsIn K mainGlobals "len" = some none)
    (z_list : PySem.W.nsIn K mainGlobals "list" = some none)
    (z_max : PySem.W.nsIn K mainGlobals "max" = some none)
    (z_min : PySem.W.nsIn K mainGlobals "min" = some none)
    (z_range : PySem.W.nsIn K mainGlobals "range" = some none)
    (z_repr : PySem.W.nsIn K mainGlobals "repr" = some none)
    (z_set : PySem.W.nsIn K mainGlobals "set" = some none)
    (z_sorted : PySem.W.nsIn K mainGlobals "sorted" = some none)
    (v_MOST_CELLS : PySem.W.nsIn K mainGlobals "MOST_CELLS" = some (some (.int 200 t_MOST_CELLS)))
    (x_NoFolds : PySem.W.nsIn K mainGlobals "NoFolds" = some (some (.ref C_NoFolds)))
    (x_NoText : PySem.W.nsIn K mainGlobals "NoText" = some (some (.ref C_NoText)))
    (x_NoWish : PySem.W.nsIn K mainGlobals "NoWish" = some (some (.ref C_NoWish)))
    (x_NoPlace : PySem.W.nsIn K mainGlobals "NoPlace" = some (some (.ref C_NoPlace)))
    (x_NoCell : PySem.W.nsIn K mainGlobals "NoCell" = some (some (.ref C_NoCell)))
    (x_Whole : PySem.W.nsIn K mainGlobals "Whole" = some (some (.ref C_Whole)))
    (x_NoMark : PySem.W.nsIn K mainGlobals "NoMark" = some (some (.ref C_NoMark)))
    (x_NoList : PySem.W.nsIn K mainGlobals "NoList" = some (some (.ref C_NoList)))
    (x_Torn : PySem.W.nsIn K mainGlobals "Torn" = some (some (.ref C_Torn)))
    (x_NoPlan : PySem.W.nsIn K mainGlobals "NoPlan" = some (some (.ref C_NoPlan)))
    (x_TooMany : PySem.W.nsIn K mainGlobals "TooMany" = some (some (.ref C_TooMany)))
    (b_NoFolds : PySem.W.subIn K (.ref C_NoFolds) (.type "BaseException") = some true)
    (d_NoFolds : PySem.W.hasDictIn K C_NoFolds = true)
    (t_NoFolds : PySem.W.typeIn K (.ref C_NoFolds) = some (.type "type"))
    (u_NoFolds : PySem.W.subIn K (.ref C_NoFolds) (.ref C_NoFolds) = some true)
    (b_NoText : PySem.W.subIn K (.ref C_NoText) (.type "BaseException") = some true)
    (d_NoText : PySem.W.hasDictIn K C_NoText = true)
    (t_NoText : PySem.W.typeIn K (.ref C_NoText) = some (.type "type"))
    (u_NoText : PySem.W.subIn K (.ref C_NoFolds) (.ref C_NoText) = some false)
    (b_NoWish : PySem.W.subIn K (.ref C_NoWish) (.type "BaseException") = some true)
    (d_NoWish : PySem.W.hasDictIn K C_NoWish = true)
    (t_NoWish : PySem.W.typeIn K (.ref C_NoWish) = some (.type "type"))
    (u_NoWish : PySem.W.subIn K (.ref C_NoFolds) (.ref C_NoWish) = some false)
    (b_NoPlace : PySem.W.subIn K (.ref C_NoPlace) (.type "BaseException") = some true)
    (d_NoPlace : PySem.W.hasDictIn K C_NoPlace = true)
    (t_NoPlace : PySem.W.typeIn K (.ref C_NoPlace) = some (.type "type"))
    (u_NoPlace : PySem.W.subIn K (.ref C_NoFolds) (.ref C_NoPlace) = some false)
    (b_NoCell : PySem.W.subIn K (.ref C_NoCell) (.type "BaseException") = some true)
    (d_NoCell : PySem.W.hasDictIn K C_NoCell = true)
    (t_NoCell : PySem.W.typeIn K (.ref C_NoCell) = some (.type "type"))
    (u_NoCell : PySem.W.subIn K (.ref C_NoFolds) (.ref C_NoCell) = some false)
    (b_Whole : PySem.W.subIn K (.ref C_Whole) (.type "BaseException") = some true)
    (d_Whole : PySem.W.hasDictIn K C_Whole = true)
    (t_Whole : PySem.W.typeIn K (.ref C_Whole) = some (.type "type"))
    (u_Whole : PySem.W.subIn K (.ref C_NoFolds) (.ref C_Whole) = some false)
    (b_NoMark : PySem.W.subIn K (.ref C_NoMark) (.type "BaseException") = some true)
    (d_NoMark : PySem.W.hasDictIn K C_NoMark = true)
    (t_NoMark : PySem.W.typeIn K (.ref C_NoMark) = some (.type "type"))
    (u_NoMark : PySem.W.subIn K (.ref C_NoFolds) (.ref C_NoMark) = some false)
    (b_NoList : PySem.W.subIn K (.ref C_NoList) (.type "BaseException") = some true)
    (d_NoList : PySem.W.hasDictIn K C_NoList = true)
    (t_NoList : PySem.W.typeIn K (.ref C_NoList) = some (.type "type"))
    (u_NoList : PySem.W.subIn K (.ref C_NoFolds) (.ref C_NoList) = some false)
    (b_Torn : PySem.W.subIn K (.ref C_Torn) (.type "BaseException") = some true)
    (d_Torn : PySem.W.hasDictIn K C_Torn = true)
    (t_Torn : PySem.W.typeIn K (.ref C_Torn) = some (.type "type"))
    (u_Torn : PySem.W.subIn K (.ref C_NoFolds) (.ref C_Torn) = some false)
    (b_NoPlan : PySem.W.subIn K (.ref C_NoPlan) (.type "BaseException") = some true)
    (d_NoPlan : PySem.W.hasDictIn K C_NoPlan = true)
    (t_NoPlan : PySem.W.typeIn K (.ref C_NoPlan) = some (.type "type"))
    (u_NoPlan : PySem.W.subIn K (.ref C_NoFolds) (.ref C_NoPlan) = some false)
    (b_TooMany : PySem.W.subIn K (.ref C_TooMany) (.type "BaseException") = some true)
    (d_TooMany : PySem.W.hasDictIn K C_TooMany = true)
    (t_TooMany : PySem.W.typeIn K (.ref C_TooMany) = some (.type "type"))
    (u_TooMany : PySem.W.subIn K (.ref C_NoFolds) (.ref C_TooMany) = some false)
    (y_exc : PySem.W.excIn K C_NoFolds [.type "ValueError", .type "Exception", .type "BaseException", .type "object"] "ValueError.__new__" = true)
    (y_keep : PySem.W.keepIn K (.ref C_NoFolds) = true)
    (y_base : PySem.W.subIn K (.ref C_NoFolds) (.type "ValueError") = some true)
    (y_hg : PySem.W.findIn K (.ref C_NoFolds) "__getattribute__" = some (some (.builtin "BaseException.__getattribute__")))
    (y_hk : PySem.W.findIn K (.ref C_NoFolds) "__getattr__" = some none)
    (y_ha : PySem.W.findIn K (.ref C_NoFolds) "__class__" = some (some (.builtin "object.__class__")))
    (y_hn : PySem.W.specialIn K (.builtin "object.__class__") "__get__" = some (some (.builtin "getset_descriptor.__get__")))
    (y_ht : PySem.W.takesIn K (.builtin "object.__class__") = some true)
    (y_hm : PySem.W.mroIn K C_NoFolds (.type "object") = some true) :
    ∃ fd : FuncData, (∀ (s : Shared) (v : Value), BindsTo s fd ⟨[v], []⟩ [("script", v)]) ∧ ∀ base : Heap, K.In base → base.Ns mainGlobals mg → Dok l.prog w K mg base CX0 7 fa fd ["script"] (sp_law K) := by
  have e := hfa.symm.trans (PySem.W.mg_of X G a15)
  cases e
  have q_NoFolds : adr K "NoFolds" = C_NoFolds := by
    unfold adr
    rw [x_NoFolds]
  subst q_NoFolds
  have q_NoText : adr K "NoText" = C_NoText := by
    unfold adr
    rw [x_NoText]
  subst q_NoText
  have q_NoWish : adr K "NoWish" = C_NoWish := by
    unfold adr
    rw [x_NoWish]
  subst q_NoWish
  have q_NoPlace : adr K "NoPlace" = C_NoPlace := by
    unfold adr
    rw [x_NoPlace]
  subst q_NoPlace
  have q_NoCell : adr K "NoCell" = C_NoCell := by
    unfold adr
    rw [x_NoCell]
  subst q_NoCell
  have q_Whole : adr K "Whole" = C_Whole := by
    unfold adr
    rw [x_Whole]
  subst q_Whole
  have q_NoMark : adr K "NoMark" = C_NoMark := by
    unfold adr
    rw [x_NoMark]
  subst q_NoMark
  have q_NoList : adr K "NoList" = C_NoList := by
    unfold adr
    rw [x_NoList]
  subst q_NoList
  have q_Torn : adr K "Torn" = C_Torn := by
    unfold adr
    rw [x_Torn]
  subst q_Torn
  have q_NoPlan : adr K "NoPlan" = C_NoPlan := by
    unfold adr
    rw [x_NoPlan]
  subst q_NoPlan
  have q_TooMany : adr K "TooMany" = C_TooMany := by
    unfold adr
    rw [x_TooMany]
  subst q_TooMany
  have m_NoFolds := PySem.W.exm_ref b_NoFolds d_NoFolds t_NoFolds u_NoFolds
  have m_NoText := PySem.W.exm_ref b_NoText d_NoText t_NoText u_NoText
  have m_NoWish := PySem.W.exm_ref b_NoWish d_NoWish t_NoWish u_NoWish
  have m_NoPlace := PySem.W.exm_ref b_NoPlace d_NoPlace t_NoPlace u_NoPlace
  have m_NoCell := PySem.W.exm_ref b_NoCell d_NoCell t_NoCell u_NoCell
  have m_Whole := PySem.W.exm_ref b_Whole d_Whole t_Whole u_Whole
  have m_NoMark := PySem.W.exm_ref b_NoMark d_NoMark t_NoMark u_NoMark
  have m_NoList := PySem.W.exm_ref b_NoList d_NoList t_NoList u_NoList
  have m_Torn := PySem.W.exm_ref b_Torn d_Torn t_Torn u_Torn
  have m_NoPlan := PySem.W.exm_ref b_NoPlan d_NoPlan t_NoPlan u_NoPlan
  have m_TooMany := PySem.W.exm_ref b_TooMany d_TooMany t_TooMany u_TooMany
  have k_NoFolds := kit_ref d_NoFolds t_NoFolds u_NoFolds (fun _ => rfl)
  have k_NoText := kit_ref d_NoText t_NoText u_NoText (fun z => by rw [← z, u_NoFolds] at u_NoText; cases u_NoText)
  have k_NoWish := kit_ref d_NoWish t_NoWish u_NoWish (fun z => by rw [← z, u_NoFolds] at u_NoWish; cases u_NoWish)
  have k_NoPlace := kit_ref d_NoPlace t_NoPlace u_NoPlace (fun z => by rw [← z, u_NoFolds] at u_NoPlace; cases u_NoPlace)
  have k_NoCell := kit_ref d_NoCell t_NoCell u_NoCell (fun z => by rw [← z, u_NoFolds] at u_NoCell; cases u_NoCell)
  have k_Whole := kit_ref d_Whole t_Whole u_Whole (fun z => by rw [← z, u_NoFolds] at u_Whole; cases u_Whole)
  have k_NoMark := kit_ref d_NoMark t_NoMark u_NoMark (fun z => by rw [← z, u_NoFolds] at u_NoMark; cases u_NoMark)
  have k_NoList := kit_ref d_NoList t_NoList u_NoList (fun z => by rw [← z, u_NoFolds] at u_NoList; cases u_NoList)
  have k_Torn := kit_ref d_Torn t_Torn u_Torn (fun z => by rw [← z, u_NoFolds] at u_Torn; cases u_Torn)
  have k_NoPlan := kit_ref d_NoPlan t_NoPlan u_NoPlan (fun z => by rw [← z, u_NoFolds] at u_NoPlan; cases u_NoPlan)
  have k_TooMany := kit_ref d_TooMany t_TooMany u_TooMany (fun z => by rw [← z, u_NoFolds] at u_TooMany; cases u_TooMany)
  have Ex : Exs K mg := { g_NoFolds := PySem.W.mg_of X G x_NoFolds, g_NoText := PySem.W.mg_of X G x_NoText, g_NoWish := PySem.W.mg_of X G x_NoWish, g_NoPlace := PySem.W.mg_of X G x_NoPlace, g_NoCell := PySem.W.mg_of X G x_NoCell, g_Whole := PySem.W.mg_of X G x_Whole, g_NoMark := PySem.W.mg_of X G x_NoMark, g_NoList := PySem.W.mg_of X G x_NoList, g_Torn := PySem.W.mg_of X G x_Torn, g_NoPlan := PySem.W.mg_of X G x_NoPlan, g_TooMany := PySem.W.mg_of X G x_TooMany, exc := y_exc, keep := y_keep, sub := b_NoFolds, typ := t_NoFolds, any := (exmAny_mk m_NoFolds (exmAny_mk m_NoText (exmAny_mk m_NoWish (exmAny_mk m_NoPlace (exmAny_mk m_NoCell (exmAny_mk m_Whole (exmAny_mk m_NoMark (exmAny_mk m_NoList (exmAny_mk m_Torn (exmAny_mk m_NoPlan (exmAny_mk m_TooMany rfl))))))))))), others := (kitAny_mk k_NoText (kitAny_mk k_NoWish (kitAny_mk k_NoPlace (kitAny_mk k_NoCell (kitAny_mk k_Whole (kitAny_mk k_NoMark (kitAny_mk k_NoList (kitAny_mk k_Torn (kitAny_mk k_NoPlan (kitAny_mk k_TooMany kitAny_nil)))))))))), isx := ⟨y_hg, y_hk, b_NoFolds, d_NoFolds, y_ha, y_hn, y_ht, y_hm⟩, k_val := kit_typ (by decide +kernel) y_base }
  have T : Txt mg := { ValueError := PySem.W.mg_none_of X G z_ValueError, abs := PySem.W.mg_none_of X G z_abs, enumerate := PySem.W.mg_none_of X G z_enumerate, int := PySem.W.mg_none_of X G z_int, isinstance := PySem.W.mg_none_of X G z_isinstance, len := PySem.W.mg_none_of X G z_len, list := PySem.W.mg_none_of X G z_list, max := PySem.W.mg_none_of X G z_max, min := PySem.W.mg_none_of X G z_min, range := PySem.W.mg_none_of X G z_range, repr := PySem.W.mg_none_of X G z_repr, set := PySem.W.mg_none_of X G z_set, sorted := PySem.W.mg_none_of X G z_sorted, c_MOST_CELLS := ⟨_, PySem.W.mg_of X G v_MOST_CELLS⟩ }
  have o_is_rising : Own K mg "is_rising" s_is_rising ["numbers", "end"] f1 _ := ⟨fun_mk l1 c1 k1, PySem.W.mg_of X G a1, (fun_mk (st := s_is_rising) l1 c1 k1).binds (ps := ["numbers", "end"]) fun _ _ _ _ _ _ us hl => match us, hl with | [_, _], _ => rfl⟩
  have o_is_folding : Own K mg "is_folding" s_is_folding ["many", "folds"] f2 _ := ⟨fun_mk l2 c2 k2, PySem.W.mg_of X G a2, (fun_mk (st := s_is_folding) l2 c2 k2).binds (ps := ["many", "folds"]) fun _ _ _ _ _ _ us hl => match us, hl with | [_, _], _ => rfl⟩
  have o_places : Own K mg "places" s_places ["many", "folds"] f3 _ := ⟨fun_mk l3 c3 k3, PySem.W.mg_of X G a3, (fun_mk (st := s_places) l3 c3 k3).binds (ps := ["many", "folds"]) fun _ _ _ _ _ _ us hl => match us, hl with | [_, _], _ => rfl⟩
  have o_cells_at : Own K mg "cells_at" s_cells_at ["many", "folds", "place"] f4 _ := ⟨fun_mk l4 c4 k4, PySem.W.mg_of X G a4, (fun_mk (st := s_cells_at) l4 c4 k4).binds (ps := ["many", "folds", "place"]) fun _ _ _ _ _ _ us hl => match us, hl with | [_, _, _], _ => rfl⟩
  have o_stacks : Own K mg "stacks" s_stacks ["many", "folds"] f5 _ := ⟨fun_mk l5 c5 k5, PySem.W.mg_of X G a5, (fun_mk (st := s_stacks) l5 c5 k5).binds (ps := ["many", "folds"]) fun _ _ _ _ _ _ us hl => match us, hl with | [_, _], _ => rfl⟩
  have o_walked : Own K mg "walked" s_walked ["steps", "folds"] f6 _ := ⟨fun_mk l6 c6 k6, PySem.W.mg_of X G a6, (fun_mk (st := s_walked) l6 c6 k6).binds (ps := ["steps", "folds"]) fun _ _ _ _ _ _ us hl => match us, hl with | [_, _], _ => rfl⟩
  have o_law_spool : Own K mg "_law_spool" s_law_spool ["script", "k"] f7 _ := ⟨fun_mk l7 c7 k7, PySem.W.mg_of X G a7, (fun_mk (st := s_law_spool) l7 c7 k7).binds (ps := ["script", "k"]) fun _ _ _ _ _ _ us hl => match us, hl with | [_, _], _ => rfl⟩
  have o_law_reel : Own K mg "_law_reel" s_law_reel ["spool", "size"] f8 _ := ⟨fun_mk l8 c8 k8, PySem.W.mg_of X G a8, (fun_mk (st := s_law_reel) l8 c8 k8).binds (ps := ["spool", "size"]) fun _ _ _ _ _ _ us hl => match us, hl with | [_, _], _ => rfl⟩
  have o_law_size : Own K mg "_law_size" s_law_size ["spool"] f9 _ := ⟨fun_mk l9 c9 k9, PySem.W.mg_of X G a9, (fun_mk (st := s_law_size) l9 c9 k9).binds (ps := ["spool"]) fun _ _ _ _ _ _ us hl => match us, hl with | [_], _ => rfl⟩
  have o_law_folds : Own K mg "_law_folds" s_law_folds ["spool", "size"] f10 _ := ⟨fun_mk l10 c10 k10, PySem.W.mg_of X G a10, (fun_mk (st := s_law_folds) l10 c10 k10).binds (ps := ["spool", "size"]) fun _ _ _ _ _ _ us hl => match us, hl with | [_, _], _ => rfl⟩
  have o_law_is_folding : Own K mg "_law_is_folding" s_law_is_folding ["size", "creases"] f11 _ := ⟨fun_mk l11 c11 k11, PySem.W.mg_of X G a11, (fun_mk (st := s_law_is_folding) l11 c11 k11).binds (ps := ["size", "creases"]) fun _ _ _ _ _ _ us hl => match us, hl with | [_, _], _ => rfl⟩
  have o_law_bent : Own K mg "_law_bent" s_law_bent ["spool", "size", "creases"] f12 _ := ⟨fun_mk l12 c12 k12, PySem.W.mg_of X G a12, (fun_mk (st := s_law_bent) l12 c12 k12).binds (ps := ["spool", "size", "creases"]) fun _ _ _ _ _ _ us hl => match us, hl with | [_, _, _], _ => rfl⟩
  have o_law_said : Own K mg "_law_said" s_law_said ["way", "size", "creases"] f13 _ := ⟨fun_mk l13 c13 k13, PySem.W.mg_of X G a13, (fun_mk (st := s_law_said) l13 c13 k13).binds (ps := ["way", "size", "creases"]) fun _ _ _ _ _ _ us hl => match us, hl with | [_, _, _], _ => rfl⟩
  have o_law_right : Own K mg "_law_right" s_law_right ["size", "creases"] f14 _ := ⟨fun_mk l14 c14 k14, PySem.W.mg_of X G a14, (fun_mk (st := s_law_right) l14 c14 k14).binds (ps := ["size", "creases"]) fun _ _ _ _ _ _ us hl => match us, hl with | [_, _], _ => rfl⟩
  have o_law : ∀ fd, Fun K "law" "law" s_law fa fd → Own K mg "law" s_law ["script"] fa fd := fun fd F => ⟨F, PySem.W.mg_of X G a15, F.binds (ps := ["script"]) fun _ _ _ _ _ _ us hl => match us, hl with | [_], _ => rfl⟩
  refine ⟨PySem.W.fnOf "law" "law" (defArgs s_law) (defBody s_law) (defScope s_law) .none kV15 dc15 pm15 an15 cd15 ct15, fun s v => .of_eq rfl, fun base _ _ => ?_⟩
  have o := o_law _ (fun_mk (st := s_law) l15 c15 k15)
  have C_reel := ok_pull (P := l.prog) (w := w) (base := base) o_law_reel
  have C_spool := ok_spool (P := l.prog) (w := w) (base := base) o_law_spool T
  have C_size := ok_size o_law_size T C_reel
  have C_folds := ok_folds o_law_folds T C_reel
  have C_isr := ok_is_rising (P := l.prog) (w := w) (base := base) o_is_rising T
  have C_isf := ok_is_folding o_is_folding T C_isr
  have C_pwalk := ok_pwalk (P := l.prog) (w := w) (base := base) o_walked T
  have C_places := ok_places o_places T Ex C_isf C_pwalk
  have C_cells_at := ok_cells_at o_cells_at T Ex C_places
  have C_stacks := ok_stacks o_stacks T Ex C_places
  have C_look := ok_look (P := l.prog) (w := w) (base := base) o_law_is_folding T
  have C_said := ok_said o_law_said T Ex C_places C_cells_at C_stacks
  exact ok_law o T C_spool C_reel C_size C_folds C_look (ok_bent o_law_bent T C_reel) (ok_right o_law_right T C_isf C_look C_said)
theorem walk {l : PySem.W.OpenLaw} {q : Program} {loose : List Str} {XP : (Str → Option Value) → Heap → Prop} {YP : World → Heap → Prop} {d : DefRec} {K : Params → PySem.W.Frag} (hn : l.most = some 63) (hdf : d.params.defaults = [])
    (hY : ∀ (w : World) (h : Heap), YP w h → (K w.params).In h)
    (F : ∀ (w : World) (mg : Str → Option Value) (fa : Addr) (h : Heap), (K w.params).In h → h.Ns mainGlobals mg → mg d.name = some (.ref fa) →
      ∃ fd : FuncData, (∀ (s : Shared) (u : Value), BindsTo s fd ⟨[u], []⟩ [("script", u)]) ∧ ∀ base : Heap, (K w.params).In base → base.Ns mainGlobals mg → Dok l.prog w (K w.params) mg base CX0 7 fa fd ["script"] (sp_law (K w.params))) :
    PySem.W.WalkO q loose XP YP l.row.toRowW d [] (fun f vs => PySem.call f vs) :=
  walkX (n := 63) (k := 7) (x := "script") (sp := fun w => sp_law (K w.params)) hn (by decide) hdf ⟨rfl, ⟨rfl, by decide, by decide⟩⟩ hY F (fun _ _ a ns hl hS => ⟨a, ns, rfl, hS, hl, fun _ => rfl⟩)
end Lw
open PySem PySem.W PyProof.Rows in
set_option maxRecDepth 100000 in
set_option maxHeartbeats 0 in
theorem PySem.Challenge.cw_pleatpunch_k11_foldings_judged_holds : PySem.Challenge.rw_pleatpunch_k11_foldings_judged.Holds := by
  w_on; o_law; k_head; (case hw => w_witness2)
  k_fill
  refine Lw.walk (l := PySem.Challenge.rw_pleatpunch_k11_foldings_judged) rfl rfl (fun w h Y => PySem.W.kIn_of Y) ?F
  case F =>
    intro w mg fa h KX G hmg
    refine' Lw.all_mk KX G hmg ?a1 ?l1 ?c1 ?k1 ?a2 ?l2 ?c2 ?k2 ?a3 ?l3 ?c3 ?k3 ?a4 ?l4 ?c4 ?k4 ?a5 ?l5 ?c5 ?k5 ?a6 ?l6 ?c6 ?k6 ?a7 ?l7 ?c7 ?k7 ?a8 ?l8 ?c8 ?k8 ?a9 ?l9 ?c9 ?k9 ?a10 ?l10 ?c10 ?k10 ?a11 ?l11 ?c11 ?k11 ?a12 ?l12 ?c12 ?k12 ?a13 ?l13 ?c13 ?k13 ?a14 ?l14 ?c14 ?k14 ?a15 ?l15 ?c15 ?k15 ?z_ValueError ?z_abs ?z_enumerate ?z_int ?z_isinstance ?z_len ?z_list ?z_max ?z_min ?z_range ?z_repr ?z_set ?z_sorted ?v_MOST_CELLS ?x_NoFolds ?x_NoText ?x_NoWish ?x_NoPlace ?x_NoCell ?x_Whole ?x_NoMark ?x_NoList ?x_Torn ?x_NoPlan ?x_TooMany ?b_NoFolds ?d_NoFolds ?t_NoFolds ?u_NoFolds ?b_NoText ?d_NoText ?t_NoText ?u_NoText ?b_NoWish ?d_NoWish ?t_NoWish ?u_NoWish ?b_NoPlace ?d_NoPlace ?t_NoPlace ?u_NoPlace ?b_NoCell ?d_NoCell ?t_NoCell ?u_NoCell ?b_Whole ?d_Whole ?t_Whole ?u_Whole ?b_NoMark ?d_NoMark ?t_NoMark ?u_NoMark ?b_NoList ?d_NoList ?t_NoList ?u_NoList ?b_Torn ?d_Torn ?t_Torn ?u_Torn ?b_NoPlan ?d_NoPlan ?t_NoPlan ?u_NoPlan ?b_TooMany ?d_TooMany ?t_TooMany ?u_TooMany ?y_exc ?y_keep ?y_base ?y_hg ?y_hk ?y_ha ?y_hn ?y_ht ?y_hm
    (case a1 => k_is)
    (case l1 => k_is)
    (case c1 => k_is)
    (case k1 => k_is)
    (case a2 => k_is)
    (case l2 => k_is)
    (case c2 => k_is)
    (case k2 => k_is)
    (case a3 => k_is)
    (case l3 => k_is)
    (case c3 => k_is)
    (case k3 => k_is)
    (case a4 => k_is)
    (case l4 => k_is)
    (case c4 => k_is)
    (case k4 => k_is)
    (case a5 => k_is)
    (case l5 => k_is)
    (case c5 => k_is)
    (case k5 => k_is)
    (case a6 => k_is)
    (case l6 => k_is)
    (case c6 => k_is)
    (case k6 => k_is)
    (case a7 => k_is)
    (case l7 => k_is)
    (case c7 => k_is)
    (case k7 => k_is)
    (case a8 => k_is)
    (case l8 => k_is)
    (case c8 => k_is)
    (case k8 => k_is)
    (case a9 => k_is)
    (case l9 => k_is)
    (case c9 => k_is)
    (case k9 => k_is)
    (case a10 => k_is)
    (case l10 => k_is)
    (case c10 => k_is)
    (case k10 => k_is)
    (case a11 => k_is)
    (case l11 => k_is)
    (case c11 => k_is)
    (case k11 => k_is)
    (case a12 => k_is)
    (case l12 => k_is)
    (case c12 => k_is)
    (case k12 => k_is)
    (case a13 => k_is)
    (case l13 => k_is)
    (case c13 => k_is)
    (case k13 => k_is)
    (case a14 => k_is)
    (case l14 => k_is)
    (case c14 => k_is)
    (case k14 => k_is)
    (case a15 => k_is)
    (case l15 => k_is)
    (case c15 => k_is)
    (case k15 => k_is)
    (case z_ValueError => k_is)
    (case z_abs => k_is)
    (case z_enumerate => k_is)
    (case z_int => k_is)
    (case z_isinstance => k_is)
    (case z_len => k_is)
    (case z_list => k_is)
    (case z_max => k_is)
    (case z_min => k_is)
    (case z_range => k_is)
    (case z_repr => k_is)
    (case z_set => k_is)
    (case z_sorted => k_is)
    (case v_MOST_CELLS => k_is)
    (case x_NoFolds => k_is)
    (case x_NoText => k_is)
    (case x_NoWish => k_is)
    (case x_NoPlace => k_is)
    (case x_NoCell => k_is)
    (case x_Whole => k_is)
    (case x_NoMark => k_is)
    (case x_NoList => k_is)
    (case x_Torn => k_is)
    (case x_NoPlan => k_is)
    (case x_TooMany => k_is)
    (case b_NoFolds => k_is)
    (case d_NoFolds => k_is)
    (case t_NoFolds => k_is)
    (case u_NoFolds => k_is)
    (case b_NoText => k_is)
    (case d_NoText => k_is)
    (case t_NoText => k_is)
    (case u_NoText => k_is)
    (case b_NoWish => k_is)
    (case d_NoWish => k_is)
    (case t_NoWish => k_is)
    (case u_NoWish => k_is)
    (case b_NoPlace => k_is)
    (case d_NoPlace => k_is)
    (case t_NoPlace => k_is)
    (case u_NoPlace => k_is)
    (case b_NoCell => k_is)
    (case d_NoCell => k_is)
    (case t_NoCell => k_is)
    (case u_NoCell => k_is)
    (case b_Whole => k_is)
    (case d_Whole => k_is)
    (case t_Whole => k_is)
    (case u_Whole => k_is)
    (case b_NoMark => k_is)
    (case d_NoMark => k_is)
    (case t_NoMark => k_is)
    (case u_NoMark => k_is)
    (case b_NoList => k_is)
    (case d_NoList => k_is)
    (case t_NoList => k_is)
    (case u_NoList => k_is)
    (case b_Torn => k_is)
    (case d_Torn => k_is)
    (case t_Torn => k_is)
    (case u_Torn => k_is)
    (case b_NoPlan => k_is)
    (case d_NoPlan => k_is)
    (case t_NoPlan => k_is)
    (case u_NoPlan => k_is)
    (case b_TooMany => k_is)
    (case d_TooMany => k_is)
    (case t_TooMany => k_is)
    (case u_TooMany => k_is)
    (case y_exc => k_exc)
    (case y_keep => k_is)
    (case y_base => k_is)
    (case y_hg => k_is)
    (case y_hk => k_is)
    (case y_ha => k_is)
    (case y_hn => k_is)
    (case y_ht => k_is)
    (case y_hm => k_is)


